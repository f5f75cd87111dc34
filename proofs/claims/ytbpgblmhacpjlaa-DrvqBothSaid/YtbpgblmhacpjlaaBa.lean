/-
  A device's queue: its numbers, its descriptors, tables.
-/
import Derived.Test.YtbpgblmhacpjlaaDqa
import Derived.Test.YtbpgblmhacpjlaaVc
import Derived.Test.YtbpgblmhacpjlaaGm5
import Derived.Test.YtbpgblmhacpjlaaOv
import Derived.Test.YtbpgblmhacpjlaaVa
import Derived.BigQuiet
import Derived.Deep.QuietTactic
import Derived.StillTailTactics
import Derived.BigRegion
namespace Go.Proofs.Ytbpgblmhacpjlaa
open Go.RowKit

/-! the places of a ring -/
/-- A queue's numbers. -/
structure Qs where
  ring : Nat
  size : Nat
  drv : Nat
  dev : Nat
  na : Nat
  nw : Bool
  ba : Nat
  bw : Bool
  ta : Nat
  tw : Bool
  since : Nat
  out : Nat
  broken : Bool
structure Qs.Ok (q : Qs) (n : Nat) : Prop where
  s1 : 1 ≤ q.size
  s2 : q.size ≤ 32768
  r : q.ring + 16 * q.size ≤ n
  drv : q.drv + 4 ≤ n
  dev : q.dev + 4 ≤ n
  na : q.na < q.size
  ba : q.ba < q.size
  ta : q.ta < q.size
  out : q.out ≤ q.size
/-- the code's queue as it lies in its block; the document's -/
def Qs.cells (q : Qs) (g : Nat) : Array Value :=
  #[.pointer (some ⟨g, 0, none⟩), .int .i64 (q.ring : Int), .int .i64 (q.size : Int), .int .i64 (q.drv : Int), .int .i64 (q.dev : Int), .int .i64 (q.na : Int), .bool q.nw, .int .i64 (q.ba : Int), .bool q.bw, .int .i64 (q.out : Int), .int .i64 (q.ta : Int), .bool q.tw, .int .i64 (q.since : Int), .bool q.broken]
def Qs.cellsR (q : Qs) (g : Nat) : Array Value :=
  #[.pointer (some ⟨g, 0, none⟩), .int .i64 (q.ring : Int), .int .i64 (q.size : Int), .int .i64 (q.drv : Int), .int .i64 (q.dev : Int), .int .i64 (q.na : Int), .bool q.nw, .int .i64 (q.ba : Int), .bool q.bw, .int .i64 (q.ta : Int), .bool q.tw, .int .i64 (q.since : Int), .int .i64 (q.out : Int), .bool q.broken]

/-! the chain -/
def ringGo (xs : List UInt8) (ring size : Nat) : Nat → Nat → List De → De → Option (List De)
  | 0, _, l, d => if d.bit 1 then none else some (l ++ [d])
  | f + 1, a, l, d => if d.bit 1 then ringGo xs ring size f (stA size a 1) (l ++ [d]) (deAt xs (ring + 16 * stA size a 1)) else some (l ++ [d])
theorem ringGo_end {xs : List UInt8} {ring size f a : Nat} {l : List De} {d : De} (h : d.bit 1 = false) : ringGo xs ring size f a l d = some (l ++ [d]) := by
  cases f <;> simp [ringGo, h]
theorem ringGo_none {xs : List UInt8} {ring size a : Nat} {l : List De} {d : De} (h : d.bit 1 = true) : ringGo xs ring size 0 a l d = none := by simp [ringGo, h]
theorem ringGo_step {xs : List UInt8} {ring size f a : Nat} {l : List De} {d : De} (h : d.bit 1 = true) : ringGo xs ring size (f + 1) a l d = ringGo xs ring size f (stA size a 1) (l ++ [d]) (deAt xs (ring + 16 * stA size a 1)) := by simp [ringGo, h]
theorem ringGo_length {xs : List UInt8} {ring size : Nat} : ∀ {f a : Nat} {l : List De} {d : De} {r : List De}, ringGo xs ring size f a l d = some r → l.length + 1 ≤ r.length ∧ r.length ≤ l.length + 1 + f := by
  intro f
  induction f with
  | zero =>
    intro a l d r h
    cases hb : d.bit 1
    · rw [ringGo_end hb] at h; injection h with h; subst h; simp
    · rw [ringGo_none hb] at h; cases h
  | succ f ih =>
    intro a l d r h
    cases hb : d.bit 1
    · rw [ringGo_end hb] at h; injection h with h; subst h; simp
    · rw [ringGo_step hb] at h
      have := ih h
      simp at this
      omega
def allowed (q : Qs) : Nat := min (q.size - q.out) 64
def ringV (xs : List UInt8) (q : Qs) : Option (List De) := ringGo xs q.ring q.size (allowed q - 1) q.na [] (deAt xs (q.ring + 16 * q.na))

/-- a table's descriptors -/
def tabOk (xs : List UInt8) (d : De) : Bool := decide (0 < d.n ∧ d.n % 16 = 0 ∧ d.n ≤ 1024 ∧ d.a + d.n ≤ xs.length)
def tabL (xs : List UInt8) (d : De) : List De := (List.range (d.n / 16)).map fun i => deAt xs (d.a + 16 * i)
def nameV (xs : List UInt8) (l : List De) : Option (List De) :=
  match l with
  | [d] => if d.bit 4 then (if tabOk xs d then some (tabL xs d) else none) else some [d]
  | l => some l

/-- has this descriptor bytes within memory, and does it name no table? -/
def De.fit (xs : List UInt8) (d : De) : Bool := decide (0 < d.n ∧ d.a + d.n ≤ xs.length)
def partsGo (xs : List UInt8) : List De → Bool → Option (List Pt)
  | [], _ => some []
  | d :: r, w => if !d.bit 4 && d.fit xs && (d.bit 2 || !w) then (partsGo xs r (d.bit 2)).map (⟨d.a, d.n, d.bit 2⟩ :: ·) else none
/-- A chain. -/
structure Ch where
  id : Nat
  count : Nat
  parts : List Pt
def lastId (l : List De) : Nat := match l.getLast? with | some d => d.id | none => 0
def chainV (xs : List UInt8) (q : Qs) : Option Ch :=
  (ringV xs q).bind fun l => (nameV xs l).bind fun n => (partsGo xs n false).map fun p => ⟨lastId l, l.length, p⟩

/-! what is asked of a queue -/
def noCh : Ch := ⟨0, 0, []⟩
/-- Next: the chain, is there one, the error, the queue then -/
def nextC (xs : List UInt8) (q : Qs) : Ch × Bool × Int × Qs :=
  if q.broken then (noCh, false, 141, q) else
  if q.out = q.size then (noCh, false, 0, q) else
  if availB (deAt xs (q.ring + 16 * q.na)).f q.nw then
    match chainV xs q with
    | none => (noCh, false, 141, { q with broken := true })
    | some c => (c, true, 0, { q with na := stA q.size q.na c.count, nw := stW q.size q.na c.count q.nw, out := q.out + c.count })
  else (noCh, false, 0, q)
end Go.Proofs.Ytbpgblmhacpjlaa
namespace Go.Proofs.Ytbpgblmhacpjlaa
open Go.RowKit

/-- Nothing has turned but blocks of a memory's types. -/
structure Keep (w w' : World) : Prop where
  size : w.heap.size ≤ w'.heap.size
  block : ∀ (k : Nat) (t : TypeId) (cs : Array Value) (fr : Nat × Nat), w.heap[k]? = some (Obj.cells cs t fr) → t ≠ 85 → t ≠ 5 → t ≠ 141 → w'.heap[k]? = w.heap[k]?
theorem heap_lt {w : World} {k : Nat} {o : Obj} (h : w.heap[k]? = some o) : k < w.heap.size := by
  rcases Nat.lt_or_ge k w.heap.size with hlt | hge
  · exact hlt
  · rw [Array.getElem?_eq_none hge] at h; cases h
theorem Keep.refl (w : World) : Keep w w := ⟨Nat.le_refl _, fun _ _ _ _ _ _ _ _ => rfl⟩
theorem Keep.trans {w w1 w2 : World} (h : Keep w w1) (g : Keep w1 w2) : Keep w w2 :=
  ⟨Nat.le_trans h.size g.size, fun k t cs fr hk a b c => by
    have e := h.block k t cs fr hk a b c
    exact (g.block k t cs fr (e.trans hk) a b c).trans e⟩
theorem Keep.of_below {w w' : World} (h : Below w.heap.size w w') : Keep w w' := ⟨h.size, fun k _ _ _ hk _ _ _ => h.block k (heap_lt hk)⟩
theorem Keep.of_noted {B g gb : Nat} {lv : Value} {xs ys : List UInt8} {w w' : World} (hm : Mem B g gb lv xs w) (h : Noted B g gb lv ys w w') : Keep w w' := by
  obtain ⟨lv1, hM, hT, hL⟩ := h
  refine ⟨hT.size, fun k t cs fr hk a b c => ?_⟩
  obtain ⟨e1, e2, e3⟩ := hm.far hk a b c
  exact hT.block k (heap_lt hk) e1 e2 e3
theorem Keep.put {w0 w : World} (h : Keep w0 w) {k : Nat} (hk : w0.heap.size ≤ k) (i : Nat) (u : Value) : Keep w0 (w.setCell ⟨k, i, none⟩ u) :=
  ⟨by simpa [World.setCell] using h.size, fun j t cs fr hj a b c => (Below.heap_setCell w _ u j (by have := heap_lt hj; show j ≠ k; omega)).trans (h.block j t cs fr hj a b c)⟩
theorem Blk.keep {w w' : World} {k : Nat} {t : TypeId} {cs : Array Value} (h : Blk w k t cs) (hk : Keep w w') (a : t ≠ 85) (b : t ≠ 5) (c : t ≠ 141) : Blk w' k t cs := h.same (hk.block k t cs _ h a b c)
theorem own_keep {w w' : World} {base : Nat} {e : TypeId} {size n : Nat} {v : Value} {xs : List Value} (h : w.ownsRow base e size v n xs) (hk : Keep w w') (a : e ≠ 85) (b : e ≠ 5) (c : e ≠ 141) : w'.ownsRow base e size v n xs := by
  refine ⟨h.1, ?_⟩
  rcases h.2 with hn | ⟨g, cap, cur, rfl, h1, hgg, rest⟩
  · exact .inl hn
  · exact .inr ⟨g, cap, cur, rfl, h1, (hk.block g e cur _ hgg a b c).trans hgg, rest⟩

/-- What a call on a queue starts from. -/
structure Ctx where
  B : Nat
  gq : Nat
  g : Nat
  gb : Nat
  lv : Value
  xs : List UInt8
  q : Qs
  w0 : World
/-- .. and where it is: the queue and the memory's bytes as they were, and all else but the memory's log. wE: where an inner call began. -/
structure Rm (c : Ctx) (wE w : World) : Prop where
  blk : Blk w c.gq 92 (c.q.cells c.g)
  mem : Noted c.B c.g c.gb c.lv c.xs c.w0 w
  keep : Keep wE w
  base : c.w0.heap.size ≤ wE.heap.size
section
variable {c : Ctx} {wE w w' : World}
theorem Rm.enter (h : Rm c wE w) : Rm c w w := ⟨h.blk, h.mem, Keep.refl _, Nat.le_trans h.base h.keep.size⟩
theorem Rm.leave {w1 : World} (h : Rm c wE w1) (g : Rm c w1 w) : Rm c wE w := ⟨g.blk, g.mem, h.keep.trans g.keep, h.base⟩
theorem Rm.below (h : Rm c wE w) (hb : Below w.heap.size w w') : Rm c wE w' :=
  ⟨h.blk.same (hb.block _ h.blk.lt), h.mem.after hb, h.keep.trans (Keep.of_below hb), h.base⟩
theorem Rm.drew (h : Rm c wE w) : Rm c wE w.drew := h.below (Below.refl _ _).drew
theorem Rm.drewN (h : Rm c wE w) (n : Nat) : Rm c wE (w.drewN n) := h.below ⟨rfl, rfl, rfl, Nat.le_refl _, fun _ _ => rfl⟩
theorem Rm.alloc (h : Rm c wE w) (o : Obj) : Rm c wE (w.alloc o) := h.below ((Below.refl _ _).alloc (Nat.le_refl _) _)
theorem Rm.get (h : Rm c wE w) : ∃ lv1, Mem c.B c.g c.gb lv1 c.xs w := by
  obtain ⟨lv1, hM, _⟩ := h.mem
  exact ⟨lv1, hM⟩
/-- a call on the memory that leaves its bytes -/
theorem Rm.noted {lv1 : Value} (h : Rm c wE w) (hm : c.w0.heap.size ≤ w.heap.size → Touch c.g c.gb c.lv c.w0 w ∧ (∀ k, lv1.ownBlock = some k → c.lv.ownBlock = some k ∨ c.w0.heap.size ≤ k)) (hM : Mem c.B c.g c.gb lv1 c.xs w) (hn : Noted c.B c.g c.gb lv1 c.xs w w') : Rm c wE w' := by
  have hk := Keep.of_noted hM hn
  obtain ⟨hT, hL⟩ := hm (Nat.le_trans h.base h.keep.size)
  obtain ⟨lv2, hM2, hT2, hL2⟩ := hn
  refine ⟨h.blk.keep hk (by decide) (by decide) (by decide), ⟨lv2, hM2, hT.trans hT2 hL, fun k hk2 => ?_⟩, h.keep.trans hk, h.base⟩
  rcases hL2 k hk2 with e | e
  · exact hL k e
  · right; have := h.base; have := h.keep.size; omega
theorem Rm.read (h : Rm c wE w) (a n : Nat) (hn : a + n ≤ c.xs.length) :
    Calls Try.prog 46 #[.pointer (some ⟨c.g, 0, none⟩), .int .i64 a, .int .i64 n] w fun e w' => e = .returned (.tuple #[.string ⟨((c.xs.drop a).take n).toArray⟩, .int .i64 0]) ∧ Rm c w w' := by
  obtain ⟨lv1, hM, hT, hL⟩ := h.mem
  exact (read_ok hM a n hn).mono fun e w' ⟨he, hN⟩ => ⟨he, h.enter.noted (fun _ => ⟨hT, hL⟩) hM hN⟩
theorem Rm.may (h : Rm c wE w) (a n : Int) (hn : n < 9223372036854775808) :
    Calls Try.prog 50 #[.pointer (some ⟨c.g, 0, none⟩), .int .i64 a, .int .i64 n] w fun e w' => e = .returned (.bool (mayB c.xs a n)) ∧ w = w' := by
  obtain ⟨lv1, hM⟩ := h.get
  exact may_any hM a n hn
/-- a store into a variable of the call's own -/
theorem Rm.put (h : Rm c wE w) {k : Nat} {t : TypeId} {cs : Array Value} (hk : Blk w k t cs) (hE : wE.heap.size ≤ k) (a : t ≠ 85) (b : t ≠ 5) (d : t ≠ 141) (e : t ≠ 92) (i : Nat) (u : Value) : Rm c wE (w.setCell ⟨k, i, none⟩ u) := by
  obtain ⟨lv1, hM, hT, hL⟩ := h.mem
  obtain ⟨n1, n2, n3⟩ := hM.far hk a b d
  have o : ∀ j, j ≠ k → (w.setCell ⟨k, i, none⟩ u).heap[j]? = w.heap[j]? := fun j hj => Below.heap_setCell w _ u j hj
  refine ⟨h.blk.other (fun x => hk.ne h.blk e x.symm) i u, ⟨lv1, hM.kept (o _ n1.symm) (o _ n2.symm) (fun j hj => o j (fun x => n3 (x ▸ hj))), ⟨hT.os, hT.tape, hT.output, by simpa [World.setCell] using hT.size, fun j hj x y z => (o j (by have := h.base; omega)).trans (hT.block j hj x y z)⟩, hL⟩, h.keep.put hE i u, h.base⟩
theorem Rm.put4 (h : Rm c wE w) {k : Nat} {t : TypeId} {a0 a1 a2 a3 : Value} (hk : Blk w k t #[a0, a1, a2, a3]) (hE : wE.heap.size ≤ k) (a : t ≠ 85) (b : t ≠ 5) (d : t ≠ 141) (e : t ≠ 92) (b0 b1 b2 b3 : Value) :
    Rm c wE ((((w.setCell ⟨k, 0, none⟩ b0).setCell ⟨k, 1, none⟩ b1).setCell ⟨k, 2, none⟩ b2).setCell ⟨k, 3, none⟩ b3) ∧ Blk ((((w.setCell ⟨k, 0, none⟩ b0).setCell ⟨k, 1, none⟩ b1).setCell ⟨k, 2, none⟩ b2).setCell ⟨k, 3, none⟩ b3) k t #[b0, b1, b2, b3] := by
  have k1 := hk.put 0 b0
  have k2 := k1.put 1 b1
  have k3 := k2.put 2 b2
  have k4 := k3.put 3 b3
  exact ⟨(((h.put hk hE a b d e 0 b0).put k1 hE a b d e 1 b1).put k2 hE a b d e 2 b2).put k3 hE a b d e 3 b3, by simpa using k4⟩
theorem Rm.put2 (h : Rm c wE w) {k : Nat} {t : TypeId} {a0 a1 : Value} (hk : Blk w k t #[a0, a1]) (hE : wE.heap.size ≤ k) (a : t ≠ 85) (b : t ≠ 5) (d : t ≠ 141) (e : t ≠ 92) (b0 b1 : Value) :
    Rm c wE ((w.setCell ⟨k, 0, none⟩ b0).setCell ⟨k, 1, none⟩ b1) ∧ Blk ((w.setCell ⟨k, 0, none⟩ b0).setCell ⟨k, 1, none⟩ b1) k t #[b0, b1] := by
  have k1 := hk.put 0 b0
  have k2 := k1.put 1 b1
  exact ⟨(h.put hk hE a b d e 0 b0).put k1 hE a b d e 1 b1, by simpa using k2⟩
theorem Rm.lt (h : Rm c wE w) : c.gq < w.heap.size := h.blk.lt
/-- the queue's cells -/
theorem Rm.cells (h : Rm c wE w) : w.cell? ⟨c.gq, 0, none⟩ = some (.pointer (some ⟨c.g, 0, none⟩)) ∧ w.cell? ⟨c.gq, 1, none⟩ = some (.int .i64 (c.q.ring : Int)) ∧ w.cell? ⟨c.gq, 2, none⟩ = some (.int .i64 (c.q.size : Int)) ∧
    w.cell? ⟨c.gq, 3, none⟩ = some (.int .i64 (c.q.drv : Int)) ∧ w.cell? ⟨c.gq, 5, none⟩ = some (.int .i64 (c.q.na : Int)) ∧ w.cell? ⟨c.gq, 6, none⟩ = some (.bool c.q.nw) ∧ w.cell? ⟨c.gq, 7, none⟩ = some (.int .i64 (c.q.ba : Int)) ∧ w.cell? ⟨c.gq, 8, none⟩ = some (.bool c.q.bw) ∧ w.cell? ⟨c.gq, 9, none⟩ = some (.int .i64 (c.q.out : Int)) :=
  ⟨h.blk.cell 0, h.blk.cell 1, h.blk.cell 2, h.blk.cell 3, h.blk.cell 5, h.blk.cell 6, h.blk.cell 7, h.blk.cell 8, h.blk.cell 9⟩
end

/-! descriptor -/
set_option maxHeartbeats 800000 in
theorem desc_any {c : Ctx} {wE w : World} (h : Rm c wE w) (n : Nat) (hn : n + 16 ≤ c.xs.length) :
    Calls Try.prog 62 #[.pointer (some ⟨c.gq, 0, none⟩), .int .i64 n] w fun e w' => e = .returned (deAt c.xs n).v ∧ Rm c w w' := by
  have H := Lib.hid h.enter
  have HP := Lib.hid (fun W => parse_cut c.xs n hn W)
  have HR := Lib.hid (fun W (h : Rm c w W) => h.read n 16 hn)
  generalize (⟨((c.xs.drop n).take 16).toArray⟩ : ByteArray) = S at HP HR
  obtain ⟨d, hd⟩ : ∃ d, deAt c.xs n = d := ⟨_, rfl⟩
  rw [hd] at HP ⊢
  obtain ⟨p0, -⟩ := h.cells
  have hlt := h.lt
  have hne := Nat.ne_of_lt hlt
  clear hd h
  unfold De.v at HP
  go_enter Try.func62, Try.ntmps62
  go_wp2_with fail
  refine (HR.out _ (H.out.alloc _)).mono ?_
  rintro e w1 ⟨rfl, h1⟩
  have k1 := (Blk.new w 100 #[.int .u64 0, .int .u32 0, .int .i64 0, .int .i64 0]).keep h1.keep (by decide) (by decide) (by decide)
  have h1 := (H.out.alloc _).leave h1
  clear HR
  go_wp2_with fail
  refine (HP.out _).mono ?_
  rintro e w2 ⟨rfl, hb⟩
  have k2 := k1.same (hb.block _ k1.lt)
  have h2 := h1.below hb
  clear hb h1 k1 p0
  have z0 := k2.frozen 0
  have z1 := k2.frozen 1
  have z2 := k2.frozen 2
  have z3 := k2.frozen 3
  have c0 := k2.cell 0
  have c1 := k2.cell 1
  have c2 := k2.cell 2
  have c3 := k2.cell 3
  simp only [List.getElem?_toArray, List.getElem?_cons_zero, List.getElem?_cons_succ] at c0 c1 c2 c3
  have hlt2 := k2.lt
  have hne2 := Nat.ne_of_lt hlt2
  have hE : w.heap.size ≤ w.heap.size := Nat.le_refl _
  have hF := h2.put4 k2 hE (by decide) (by decide) (by decide) (by decide) (.int .u64 (d.a : Int)) (.int .u32 (d.n : Int)) (.int .i64 (d.id : Int)) (.int .i64 (d.f : Int))
  have HF := Lib.hid hF
  clear hF hE
  go_wp2_with fail
  exact bodyPost_ret (v := d.v) (four_results _ _ _ 4 w.heap.size rfl rfl _ _ _ _ (HF.out.2.alloc _)) rfl ⟨rfl, HF.out.1.alloc _⟩

/-! has, require, place, offset, after -/
theorem bit_and : ∀ b : Fin 256, (b.val &&& 1 != 0) = (b.val / 1 % 2 == 1) ∧ (b.val &&& 2 != 0) = (b.val / 2 % 2 == 1) ∧ (b.val &&& 4 != 0) = (b.val / 4 % 2 == 1) := by decide +kernel
theorem bit_low (n k : Nat) (hk : k < 256) : n &&& k = n % 256 &&& k := by
  have h := two_and n k
  rw [show k / 256 = 0 by omega, show k % 256 = k by omega, Nat.and_zero] at h
  omega
theorem has_bit (d : De) (h : d.Ok) (b : Nat) (hb : b = 1 ∨ b = 2 ∨ b = 4) : ∃ X : Nat, bits .and .i64 (d.f : Int) (b : Int) = (X : Int) ∧ ((X : Int) != 0) = d.bit b := by
  refine ⟨d.f &&& b, bits_and d.f b h.f (by omega), ?_⟩
  obtain ⟨e1, e2, e3⟩ := bit_and ⟨d.f % 256, by omega⟩
  simp only at e1 e2 e3
  have e : (((d.f &&& b : Nat) : Int) != 0) = (d.f &&& b != 0) := by
    rw [Bool.eq_iff_iff]; simp
  rw [e, bit_low d.f b (by omega)]
  unfold De.bit
  rcases hb with rfl | rfl | rfl
  · rw [e1]; congr 1; omega
  · rw [e2]; congr 1; omega
  · rw [e3]; congr 1; omega
theorem has_any (d : De) (h : d.Ok) (b : Nat) (hb : b = 1 ∨ b = 2 ∨ b = 4) (w : World) :
    Calls Try.prog 88 #[d.v, .int .i64 (b : Int)] w fun e w' => e = .returned (.bool (d.bit b)) ∧ Below w.heap.size w w' := by
  obtain ⟨X, hX, hd⟩ := has_bit d h b hb
  generalize d.bit b = r at *
  unfold De.v
  generalize (b : Int) = b at *
  clear h hb
  go_enter Try.func88, Try.ntmps88
  go_wp2_with fail
  go_ret
  exact ⟨rfl, (Below.refl _ _).alloc (Nat.le_refl _) _⟩
/-- the panic of a malformed chain -/
def badV : Value := .iface 129 (.agg #[])
def Bad (e : Ending) : Prop := e = .panicked [{ v := badV, recovered := false }]
theorem req_yes (w : World) : Calls Try.prog 89 #[.bool true] w fun e w' => e = .returned (.tuple #[]) ∧ w = w' := by
  go_enter Try.func89, Try.ntmps89
  go_wp2
  go_end0
  exact ⟨rfl, rfl⟩
theorem req_no (w : World) : Calls Try.prog 89 #[.bool false] w fun e w' => Bad e ∧ w = w' := by
  unfold Bad badV
  go_enter Try.func89, Try.ntmps89
  go_wp2
  exact ⟨rfl, rfl, rfl⟩
/-- where a descriptor's bytes begin, as a number with a sign -/
def plA (d : De) : Int := if d.a < 9223372036854775808 then (d.a : Int) else (d.a : Int) - 18446744073709551616
theorem place_any (d : De) (h : d.Ok) (w : World) :
    Calls Try.prog 90 #[d.v] w fun e w' => e = .returned (.tuple #[.int .i64 (plA d), .int .i64 (d.n : Int)]) ∧ Below w.heap.size w w' := by
  have v1 : IntKind.i64.wrap (d.a : Int) = plA d := by have := h.a; rw [IntKind.wrap_i64]; unfold plA; split <;> omega
  have v2 : IntKind.i64.wrap (d.n : Int) = (d.n : Int) := by have := h.n; rw [IntKind.wrap_i64]; omega
  unfold De.v
  generalize plA d = P at *
  generalize (d.n : Int) = n at *
  generalize (d.a : Int) = a at *
  clear h
  go_enter Try.func90, Try.ntmps90
  go_wp2_with fail
  go_quiet (fail)
  go_wp2_with fail
  go_ret2
  exact ⟨rfl, below_drewN ((Below.refl _ _).alloc (Nat.le_refl _) _) _⟩
theorem may_place {xs : List UInt8} (hx : xs.length ≤ 1048576) (d : De) (hd : d.Ok) : mayB xs (plA d) (d.n : Int) = decide (d.a + d.n ≤ xs.length) := by
  have ha := hd.a
  unfold mayB plA
  rw [Bool.eq_iff_iff]
  simp only [decide_eq_true_eq]
  split <;> omega
theorem offset_any {c : Ctx} {wE w : World} (h : Rm c wE w) (a : Nat) (v : Bool) (hr : c.q.ring + 16 * a ≤ 1048576) :
    Calls Try.prog 63 #[.pointer (some ⟨c.gq, 0, none⟩), .agg #[.int .i64 (a : Int), .bool v]] w fun e w' => e = .returned (.int .i64 ((c.q.ring + 16 * a : Nat) : Int)) ∧ Below w.heap.size w w' := by
  obtain ⟨-, p1, -⟩ := h.cells
  have hlt := h.lt
  have hne := Nat.ne_of_lt hlt
  have v1 : IntKind.i64.wrap ((a : Int) * 16) = (a : Int) * 16 := by rw [IntKind.wrap_i64]; omega
  have v2 : IntKind.i64.wrap ((c.q.ring : Int) + (a : Int) * 16) = ((c.q.ring + 16 * a : Nat) : Int) := by rw [IntKind.wrap_i64]; omega
  generalize ((c.q.ring + 16 * a : Nat) : Int) = R at *
  clear h hr
  go_enter Try.func63, Try.ntmps63
  go_wp2_with fail
  go_quiet (fail)
  go_wp2_with fail
  go_ret
  exact ⟨rfl, below_drewN ((Below.refl _ _).alloc (Nat.le_refl _) _) _⟩
/-- after under way: its box, its result, the queue's size, and all else -/
def AF (c : Ctx) (w : World) (a v : Value) (w' : World) : Prop :=
  (w'.cell? ⟨w.heap.size, 0, none⟩ = some a ∧ w'.cell? ⟨w.heap.size, 1, none⟩ = some v ∧ w'.cell? ⟨c.gq, 2, none⟩ = some (.int .i64 (c.q.size : Int))) ∧ Rm c w w' ∧ Blk w' w.heap.size 69 #[a, v] ∧ Blk w' (w.heap.size + 1) 69 #[.int .i64 0, .bool false]
section
variable {c : Ctx} {w w1 w' : World} {a v : Value}
theorem AF.of (h : Rm c w w') (k : Blk w' w.heap.size 69 #[a, v]) (r : Blk w' (w.heap.size + 1) 69 #[.int .i64 0, .bool false]) : AF c w a v w' := ⟨⟨k.cell 0, k.cell 1, h.cells.2.2.1⟩, h, k, r⟩
theorem AF.next (h : AF c w a v w1) (hq : Below w1.heap.size w1 w') : AF c w a v w' := AF.of (h.2.1.below hq) (h.2.2.1.same (hq.block _ h.2.2.1.lt)) (h.2.2.2.same (hq.block _ h.2.2.2.lt))
theorem AF.drew (h : AF c w a v w1) : AF c w a v w1.drew := h.next (Below.refl _ _).drew
theorem AF.alloc (h : AF c w a v w1) (o : Obj) : AF c w a v (w1.alloc o) := h.next ((Below.refl _ _).alloc (Nat.le_refl _) _)
theorem AF.store (h : AF c w a v w1) {k : Nat} {x y : Value} (hk : Blk w1 k 69 #[x, y]) (hlt : w.heap.size + 1 < k) (p q : Value) : AF c w a v ((w1.setCell ⟨k, 0, none⟩ p).setCell ⟨k, 1, none⟩ q) :=
  AF.of (h.2.1.put2 hk (by omega) (by decide) (by decide) (by decide) (by decide) p q).1 ((h.2.2.1.other (by omega) 0 p).other (by omega) 1 q) ((h.2.2.2.other (by omega) 0 p).other (by omega) 1 q)
theorem AF.stored (h : AF c w a v w1) {k : Nat} {x y : Value} (hk : Blk w1 k 69 #[x, y]) (hlt : w.heap.size + 1 < k) (p q : Value) : AF c w a v ((w1.setCell ⟨k, 0, none⟩ p).setCell ⟨k, 1, none⟩ q) ∧ Blk ((w1.setCell ⟨k, 0, none⟩ p).setCell ⟨k, 1, none⟩ q) k 69 #[p, q] :=
  ⟨h.store hk hlt p q, by have := (hk.put 0 p).put 1 q; simpa using this⟩
theorem AF.fresh (h : AF c w a v w1) (x y p q : Value) : AF c w a v (((w1.alloc (.cells #[x, y] 69)).setCell ⟨w1.heap.size, 0, none⟩ p).setCell ⟨w1.heap.size, 1, none⟩ q) :=
  (h.alloc _).store (Blk.new w1 69 #[x, y]) h.2.2.2.lt p q
end
set_option maxHeartbeats 1600000 in
theorem after_any {c : Ctx} {wE w : World} (h : Rm c wE w) (a k : Nat) (v : Bool) (h1 : 1 ≤ c.q.size) (h2 : c.q.size ≤ 32768) (ha : a < c.q.size) (hk : k ≤ c.q.size) :
    Calls Try.prog 40 #[.pointer (some ⟨c.gq, 0, none⟩), .agg #[.int .i64 (a : Int), .bool v], .int .i64 (k : Int)] w fun e w' => e = .returned (.agg #[.int .i64 (stA c.q.size a k : Int), .bool (stW c.q.size a k v)]) ∧ Rm c w w' := by
  obtain ⟨e0, e1, e2⟩ := nx_st v h1 h2 ha hk
  have HN := fun W => Sp.next_any (a : Int) (c.q.size : Int) (k : Int) v W
  rw [e0, e1, e2] at HN
  unfold Sp.R2 at HN
  generalize (stA c.q.size a k : Int) = A at *
  generalize stW c.q.size a k v = V at *
  have HN := Lib.hid HN
  have HE := Lib.hid h.enter
  obtain ⟨-, -, p2, -⟩ := h.cells
  have hlt := h.lt
  have hne := Nat.ne_of_lt hlt
  clear e0 e1 e2 h h1 h2 ha hk
  go_enter Try.func40, Try.ntmps40
  go_wp2_with fail
  have C0 := Lib.hid (AF.of (c := c) (w := w) ((HE.out.alloc _).alloc _) ((Blk.new w 69 #[.int .i64 (a : Int), .bool v]).alloc _) (Sp.Blk.new2 w (.cells #[.int .i64 (a : Int), .bool v] 69) 69 #[.int .i64 0, .bool false]))
  go_region_held3 (fun w' => (w'.cell? ⟨w.heap.size, 0, none⟩ = some (.int .i64 (a : Int)) ∧ w'.cell? ⟨w.heap.size, 1, none⟩ = some (.bool v) ∧ w'.cell? ⟨c.gq, 2, none⟩ = some (.int .i64 (c.q.size : Int))) ∧ Rm c w w' ∧ Blk w' w.heap.size 69 #[.int .i64 (a : Int), .bool v] ∧ Blk w' (w.heap.size + 1) 69 #[.int .i64 0, .bool false])
    ((refine (id (α := AF c w (.int .i64 (a : Int)) (.bool v) _) ?_); with_reducible (first | exact C0.out.drew | exact (C0.out.alloc _).drew | exact AF.next C0.out.drew hq | exact AF.next (C0.out.alloc _).drew hq | exact AF.alloc (AF.next C0.out.drew hq) _ | exact AF.store (AF.next (C0.out.alloc _).drew hq) hk1 (by omega) _ _)))
    ((go_at_call 59; ((with_reducible refine (HN.out _).mono ?_); rintro e w' ⟨rfl, hq⟩; obtain ⟨hc1, hf1⟩ := bcell hq; have hz1 := hq.size; (try simp at hz1); (try (have hk1 := (blk_third w _ _ _ _).same (hq.block _ (by simp)))))))
  · have hA := AF.alloc (AF.next C0.out.drew hq) (.cells #[.int .i64 A, .bool V] 69)
    have hk := Blk.new w' 69 #[.int .i64 A, .bool V]
    obtain ⟨W, hW⟩ : ∃ W, w'.alloc (.cells #[.int .i64 A, .bool V] 69) = W := ⟨_, rfl⟩
    obtain ⟨K, hK⟩ : ∃ K, w'.heap.size = K := ⟨_, rfl⟩
    rw [hW] at hA hk ⊢
    rw [hK] at hk ⊢
    have q0 := hk.cell 0
    have q1 := hk.cell 1
    have r := hA.2.2.2
    have x0 := r.cell 0
    have x1 := r.cell 1
    have z0 := r.frozen 0
    have z1 := r.frozen 1
    simp only [List.getElem?_toArray, List.getElem?_cons_zero, List.getElem?_cons_succ] at q0 q1 x0 x1
    have HF := Lib.hid (hA.2.1.put2 r (by omega) (by decide) (by decide) (by decide) (by decide) (.int .i64 A) (.bool V))
    clear hA hk r hW hK hq hc1 hf1 hz1
    go_wp2_with fail
    exact bodyPost_ret (v := .agg #[.int .i64 A, .bool V]) (two_results _ _ _ 6 (w.heap.size + 1) rfl rfl _ _ HF.out.2) rfl ⟨rfl, HF.out.1⟩
  · obtain ⟨hA, hk⟩ := AF.stored (AF.next (C0.out.alloc _).drew hq) hk1 (by omega) (.int .i64 A) (.bool V)
    obtain ⟨W, hW⟩ : ∃ W, (w'.setCell ⟨w.heap.size + 1 + 1, 0, none⟩ (.int .i64 A)).setCell ⟨w.heap.size + 1 + 1, 1, none⟩ (.bool V) = W := ⟨_, rfl⟩
    obtain ⟨K, hK⟩ : ∃ K, w.heap.size + 1 + 1 = K := ⟨_, rfl⟩
    rw [hW] at hA hk ⊢
    rw [hK] at hk ⊢
    have q0 := hk.cell 0
    have q1 := hk.cell 1
    have r := hA.2.2.2
    have x0 := r.cell 0
    have x1 := r.cell 1
    have z0 := r.frozen 0
    have z1 := r.frozen 1
    simp only [List.getElem?_toArray, List.getElem?_cons_zero, List.getElem?_cons_succ] at q0 q1 x0 x1
    have HF := Lib.hid (hA.2.1.put2 r (by omega) (by decide) (by decide) (by decide) (by decide) (.int .i64 A) (.bool V))
    clear hA hk r hW hK hq hc1 hf1 hz1
    go_wp2_with fail
    exact bodyPost_ret (v := .agg #[.int .i64 A, .bool V]) (two_results _ _ _ 6 (w.heap.size + 1) rfl rfl _ _ HF.out.2) rfl ⟨rfl, HF.out.1⟩
end Go.Proofs.Ytbpgblmhacpjlaa
namespace Go.Proofs.Ytbpgblmhacpjlaa
open Go.RowKit

theorem Try.info100 : (Try.prog.info? 100).map (fun i => (i.zero, i.size, i.bytes)) = some (some (.agg #[.int .u64 0, .int .u32 0, .int .i64 0, .int .i64 0]), 4, 32) := by kernel_rfl
theorem Try.info77 : (Try.prog.info? 77).map (fun i => (i.zero, i.size, i.bytes)) = some (some (.agg #[.int .i64 0, .int .i64 0, .bool false]), 3, 24) := by kernel_rfl
section
variable {c : Ctx} {wE w w' : World}
/-- a row of the call's own grows -/
theorem Rm.grown {e : TypeId} {size n : Nat} {v : Value} {ys : List Value} {B : Nat} (h : Rm c wE w) (hown : w.ownsRow B e size v n ys) (hB : wE.heap.size ≤ B) (hg : w.grownBy w' v.ownBlock) (a : e ≠ 85) (b : e ≠ 5) (d : e ≠ 141) (x : e ≠ 92) : Rm c wE w' := by
  obtain ⟨lv1, hM, hT, hL⟩ := h.mem
  have hne : ∀ k t cs fr, w.heap[k]? = some (Obj.cells cs t fr) → t ≠ e → some k ≠ v.ownBlock := by
    intro k t cs fr hk hte hkv
    rcases hown.2 with ⟨rfl, _⟩ | ⟨g, cap, cur, rfl, _, hh, _⟩
    · simp [Value.ownBlock] at hkv
    · have : k = g := by simpa [Value.ownBlock] using hkv
      subst this
      rw [hh] at hk; injection hk with hk; injection hk with _ e1; exact hte e1.symm
  have hge : ∀ k, v.ownBlock = some k → wE.heap.size ≤ k := fun k hk => Nat.le_trans hB (hown.lt k hk).1
  have hlt := hM.lt
  obtain ⟨ag, lg, old, hR⟩ := id hM
  have m1 := hg.block c.g hlt.1 (hne _ _ _ _ hR.blk (fun y => a y.symm))
  have m2 := hg.block c.gb hlt.2.1 (hne _ _ _ _ hR.row (fun y => b y.symm))
  have m3 : ∀ k, lv1.ownBlock = some k → w'.heap[k]? = w.heap[k]? := fun k hk => hg.block k (hlt.2.2 k hk) (by
    rcases hR.log.2 with ⟨rfl, _⟩ | ⟨g', cap, cur, rfl, _, hh, _⟩
    · simp [Value.ownBlock] at hk
    · have : g' = k := by simpa [Value.ownBlock] using hk
      subst this
      exact hne _ _ _ _ hh (fun y => d y.symm))
  refine ⟨h.blk.same (hg.block _ h.blk.lt (hne _ _ _ _ h.blk (fun y => x y.symm))), ⟨lv1, hM.kept m1 m2 m3, ⟨hg.os.trans hT.os, hg.tape.trans hT.tape, hg.output.trans hT.output, Nat.le_trans hT.size hg.size, fun k hk p q r => (hg.block k (by have := hT.size; omega) (fun e1 => by have := hge k e1.symm; have := h.base; omega)).trans (hT.block k hk p q r)⟩, hL⟩, ?_, h.base⟩
  exact ⟨Nat.le_trans h.keep.size hg.size, fun k t cs fr hk p q r => (hg.block k (by have := heap_lt hk; have := h.keep.size; omega) (fun e1 => by have := hge k e1.symm; have := heap_lt hk; omega)).trans (h.keep.block k t cs fr hk p q r)⟩
end
theorem Blk.grown {w w' : World} {k : Nat} {t e : TypeId} {cs : Array Value} {size n B : Nat} {v : Value} {ys : List Value} (h : Blk w k t cs) (hown : w.ownsRow B e size v n ys) (hg : w.grownBy w' v.ownBlock) (hte : e ≠ t) : Blk w' k t cs :=
  h.same (hg.block k h.lt (fun e1 => own_ne hown h hte e1.symm))
/-- a slice of one element, just built -/
theorem own_one {w : World} {k : Nat} {e : TypeId} {size B : Nat} {cs : List Value} (h : Blk w k e cs.toArray) (hB : B ≤ k) (hl : cs.length = size) : w.ownsRow B e size (.slice (some ⟨k, 0, none⟩) 1 1) 1 cs :=
  ⟨by omega, .inr ⟨k, 1, cs.toArray, rfl, hB, h, Nat.le_refl _, by unfold maxLen; omega, by simp; omega, by rw [Nat.one_mul, ← hl]; exact List.take_length⟩⟩
def lenV : Value → Nat
  | .slice _ n _ => n
  | _ => 0

/-- what rest answers -/
def RestP (c : Ctx) (w : World) (V : Option (List De)) (e : Ending) (w' : World) : Prop :=
  Rm c w w' ∧ match V with
  | none => Bad e
  | some l => ∃ A cap, e = .returned (.slice A l.length cap) ∧ w'.ownsRow w.heap.size 100 4 (.slice A l.length cap) l.length (desCells l)
/-- rest's loop -/
structure RestL (c : Ctx) (w : World) (K M : Nat) (V : Option (List De)) (s : Value) (l : List De) (d : De) (f a : Nat) (v : Bool) (wr : World) : Prop where
  rm : Rm c w wr
  own : wr.ownsRow w.heap.size 100 4 s (l.length + 1) (desCells (l ++ [d]))
  at_ : Blk wr K 69 #[.int .i64 (a : Int), .bool v]
  go : ringGo c.xs c.q.ring c.q.size f a l d = V
  sum : l.length + 1 + f = M
  lt : a < c.q.size
  ok : d.Ok
  ge : w.heap.size ≤ K
set_option maxRecDepth 100000 in
set_option maxHeartbeats 1600000 in
theorem rest_any {c : Ctx} {wE w : World} (h : Rm c wE w) (hq : c.q.Ok c.xs.length) (d0 : De) (hd : d0.Ok) (hout : c.q.out < c.q.size) :
    Calls Try.prog 79 #[.pointer (some ⟨c.gq, 0, none⟩), d0.v] w (RestP c w (ringGo c.xs c.q.ring c.q.size (allowed c.q - 1) c.q.na [] d0)) := by
  have HE := Lib.hid h.enter
  have HQ := Lib.hid hq
  have HD := Lib.hid hd
  obtain ⟨i0, hi, hz0, hz1, hz2⟩ := info_parts Try.info100
  have HI := Lib.hid hi
  have HZ0 := Lib.hid hz0
  have HZ1 := Lib.hid hz1
  have HZ2 := Lib.hid hz2
  clear hi hz0 hz1 hz2
  obtain ⟨-, -, p2, -, p5, p6, -, -, p9⟩ := h.cells
  have hlt := h.lt
  have hne := Nat.ne_of_lt hlt
  obtain ⟨M, hM, hM1, hM2⟩ : ∃ M, allowed c.q = M ∧ 1 ≤ M ∧ M ≤ 64 := ⟨_, rfl, by unfold allowed; omega, by unfold allowed; omega⟩
  rw [hM]
  have hs2 := hq.s2
  have v1 : IntKind.i64.wrap ((c.q.size : Int) - (c.q.out : Int)) = (c.q.size : Int) - (c.q.out : Int) := by rw [IntKind.wrap_i64]; omega
  have v2 : (if 64 < (c.q.size : Int) - (c.q.out : Int) then (64 : Int) else (c.q.size : Int) - (c.q.out : Int)) = (M : Int) := by rw [← hM]; unfold allowed; split <;> omega
  have HM := Lib.hid hM
  clear h hq hd hM
  obtain ⟨V, hV⟩ : ∃ V, ringGo c.xs c.q.ring c.q.size (M - 1) c.q.na [] d0 = V := ⟨_, rfl⟩
  rw [hV]
  have HV := Lib.hid hV
  clear hV
  unfold De.v
  go_enter Try.func79, Try.ntmps79
  go_wp2_with fail
  go_region
  have e1 := (HE.out.alloc (.cells #[.int .u64 (d0.a : Int), .int .u32 (d0.n : Int), .int .i64 (d0.id : Int), .int .i64 (d0.f : Int)] 100)).drew
  have k1 := (Blk.new w 100 #[.int .u64 (d0.a : Int), .int .u32 (d0.n : Int), .int .i64 (d0.id : Int), .int .i64 (d0.f : Int)]).drew
  obtain ⟨W1, hW1⟩ : ∃ W1, (w.alloc (.cells #[.int .u64 (d0.a : Int), .int .u32 (d0.n : Int), .int .i64 (d0.id : Int), .int .i64 (d0.f : Int)] 100)).drew = W1 := ⟨_, rfl⟩
  rw [hW1] at e1 k1 ⊢
  clear hW1 p2 p9 v1 p5 p6 hne hlt
  obtain ⟨-, -, -, -, p5, p6, -, -, -⟩ := e1.cells
  have b0 := k1.cell 0
  have b1 := k1.cell 1
  have b2 := k1.cell 2
  have b3 := k1.cell 3
  simp only [List.getElem?_toArray, List.getElem?_cons_zero, List.getElem?_cons_succ] at b0 b1 b2 b3
  have hlt := e1.lt
  have hne := Nat.ne_of_lt hlt
  have hlt2 := k1.lt
  have E1 := Lib.hid e1
  clear e1 k1
  have hsz := E1.out.keep.size
  have hw1 : w.heap.size ≤ W1.heap.size := hsz
  clear hsz
  go_wp2_with fail
  go_region
  · have RL : RestL c w (W1.heap.size + 1) M V (.slice (some ⟨W1.heap.size, 0, none⟩) 1 1) [] d0 (M - 1) c.q.na c.q.nw (((W1.alloc (.cells #[.int .u64 (d0.a : Int), .int .u32 (d0.n : Int), .int .i64 (d0.id : Int), .int .i64 (d0.f : Int)] 100)).alloc (.cells #[.int .i64 (c.q.na : Int), .bool c.q.nw] 69)).drew) :=
      ⟨((E1.out.alloc _).alloc _).drew, own_one ((Blk.new W1 100 _).alloc _).drew hw1 rfl, (Sp.Blk.new2 W1 _ 69 _).drew, HV.out, by simp; omega, HQ.out.na, HD.out, by omega⟩
    obtain ⟨W2, hW2⟩ : ∃ W2, (((W1.alloc (.cells #[.int .u64 (d0.a : Int), .int .u32 (d0.n : Int), .int .i64 (d0.id : Int), .int .i64 (d0.f : Int)] 100)).alloc (.cells #[.int .i64 (c.q.na : Int), .bool c.q.nw] 69)).drew) = W2 := ⟨_, rfl⟩
    obtain ⟨K, hK⟩ : ∃ K, W1.heap.size + 1 = K := ⟨_, rfl⟩
    obtain ⟨G, hG⟩ : ∃ G, W1.heap.size = G := ⟨_, rfl⟩
    rw [hW2] at RL ⊢
    rw [hK] at RL ⊢
    rw [hG] at RL ⊢
    clear hW2 hK hG
    clear p5 p6 b0 b1 b2 b3 hlt hne hlt2 E1 hw1
    go_wp2_with fail
    go_loopw [6] (fun s wr => ∃ l d f a v, RestL c w K M V s l d f a v wr) (fun s _ => M - lenV s)
    case atStart => exact ⟨_, _, _, _, _, RL⟩
    case round =>
      obtain ⟨l, d, f, a, v, RL⟩ := hrel
      obtain ⟨gr, cap, rfl, hge, hltg⟩ := RL.own.form (by omega)
      have hcl := desCells_at (l ++ [d]) l.length (by simp)
      rw [List.getElem_append_right (by omega)] at hcl
      simp only [Nat.sub_self, List.getElem_cons_zero] at hcl
      have hrow := RL.own.cells (g := gr) rfl
      have r0 := hrow _ _ hcl.1
      have r1 := hrow _ _ hcl.2.1
      have r2 := hrow _ _ hcl.2.2.1
      have r3 := hrow _ _ hcl.2.2.2
      have HB := fun W => has_any d RL.ok 1 (.inl rfl) W
      rw [addr_zero] at r0 r1 r2 r3
      have a0 := RL.at_.cell 0
      have a1 := RL.at_.cell 1
      simp only [List.getElem?_toArray, List.getElem?_cons_zero, List.getElem?_cons_succ] at a0 a1
      have f0 := RL.at_.frozen 0
      have f1 := RL.at_.frozen 1
      have hlt := RL.rm.lt
      have hltk := RL.at_.lt
      have hsum := RL.sum
      have HR := Lib.hid RL
      obtain ⟨m, hm⟩ : ∃ m, l.length = m := ⟨_, rfl⟩
      rw [hm] at r0 r1 r2 r3 hsum ⊢
      have hmb : m ≤ 63 := by omega
      have hw2 := RL.rm.keep.size
      have hgk := RL.ge
      have hal := RL.lt
      clear hcl hrow RL
      unfold De.v at HB
      cases hb : d.bit 1
      · rw [hb] at HB
        have HB := Lib.hid HB
        obtain rfl : some (l ++ [d]) = V := by rw [← HR.out.go, ringGo_end hb]
        have Hm := Lib.hid hm
        clear hm a0 a1 f0 f1 hltk hsum hb
        go_wp2_with fail
        refine (HB.out _).mono ?_
        rintro e w1 ⟨rfl, hq⟩
        go_wp2_with fail
        go_ret
        refine ⟨HR.out.rm.below hq, some ⟨gr, 0, none⟩, cap, ?_, ?_⟩
        · rw [List.length_append, Hm.out]; rfl
        · have := own_same HR.out.own (fun k hk => hq.block k (HR.out.own.lt k hk).2)
          rw [List.length_append]
          exact this
      · rw [hb] at HB
        have HB := Lib.hid HB
        cases f with
        | zero =>
          obtain rfl : none = V := by rw [← HR.out.go, ringGo_none hb]
          have hno : decide ((m : Int) + 1 < (M : Int)) = false := decide_eq_false (by omega)
          have Hm := Lib.hid hm
          clear hm a0 a1 f0 f1 hltk hsum hb
          go_wp2_with fail
          refine (HB.out _).mono ?_
          rintro e w1 ⟨rfl, hq⟩
          go_wp2_with fail
          refine (req_no _).mono ?_
          rintro e w2 ⟨he, rfl⟩
          unfold Bad at he
          subst he
          exact ⟨rfl, HR.out.rm.below hq, rfl⟩
        | succ f =>
          have hyes : decide ((m : Int) + 1 < (M : Int)) = true := decide_eq_true (by omega)
          have Hm := Lib.hid hm
          have Hs := Lib.hid hsum
          have Hb := Lib.hid hb
          clear hm hsum hb
          go_wp2_with fail
          refine (HB.out _).mono ?_
          rintro e w1 ⟨rfl, hq⟩
          have R1 := HR.out.rm.below hq
          have A1 := HR.out.at_.same (hq.block _ HR.out.at_.lt)
          have O1 := own_same HR.out.own (fun k hk => hq.block k (HR.out.own.lt k hk).2)
          clear hq r0 r1 r2 r3 a0 a1 f0 f1
          have a0 := A1.cell 0
          have a1 := A1.cell 1
          simp only [List.getElem?_toArray, List.getElem?_cons_zero, List.getElem?_cons_succ] at a0 a1
          have RR := Lib.hid R1
          have AA := Lib.hid A1
          have OO := Lib.hid O1
          clear R1 A1 O1
          go_wp2_with fail
          refine (req_yes _).mono ?_
          rintro e w2 ⟨rfl, rfl⟩
          go_wp2_with fail
          have HA := after_any RR.out a 1 v HQ.out.s1 HQ.out.s2 hal HQ.out.s1
          have HO := fun W (h : Rm c W W) => offset_any h (stA c.q.size a 1) (stW c.q.size a 1 v) (by have := HQ.out.r; have := stA_lt hal HQ.out.s1; obtain ⟨lvx, hMx⟩ := RR.out.get; have := hMx.len; omega)
          have HX := fun W (h : Rm c W W) => desc_any h (c.q.ring + 16 * stA c.q.size a 1) (by have := HQ.out.r; have := stA_lt hal HQ.out.s1; omega)
          have hok := deAt_ok c.xs (c.q.ring + 16 * stA c.q.size a 1) (by have := HQ.out.r; have := stA_lt hal HQ.out.s1; omega)
          have hgo := (ringGo_step (f := f) (xs := c.xs) (ring := c.q.ring) (size := c.q.size) (a := a) (l := l) Hb.out).symm.trans HR.out.go
          have hal2 := stA_lt hal HQ.out.s1
          rw [show ((1 : Nat) : Int) = 1 from rfl] at HA
          obtain ⟨a', ea⟩ : ∃ a', stA c.q.size a 1 = a' := ⟨_, rfl⟩
          obtain ⟨v', ev⟩ : ∃ v', stW c.q.size a 1 v = v' := ⟨_, rfl⟩
          rw [ea] at HA HO HX hok hgo hal2
          rw [ev] at HA HO
          obtain ⟨d', ed⟩ : ∃ d', deAt c.xs (c.q.ring + 16 * a') = d' := ⟨_, rfl⟩
          obtain ⟨p', ep⟩ : ∃ p', ((c.q.ring + 16 * a' : Nat) : Int) = p' := ⟨_, rfl⟩
          rw [ed] at HX hok hgo
          rw [ep] at HX HO
          have HO := Lib.hid HO
          unfold De.v at HX
          have HX := Lib.hid HX
          have Hok := Lib.hid hok
          have Hgo := Lib.hid hgo
          clear ea ev ed ep hok hgo
          refine HA.mono ?_
          rintro e w2 ⟨rfl, R2⟩
          clear HA a0 a1
          have A2 := AA.out.keep R2.keep (by decide) (by decide) (by decide)
          have O2 := own_keep OO.out R2.keep (by decide) (by decide) (by decide)
          have R2 := RR.out.leave R2
          have a0 := A2.cell 0
          have a1 := A2.cell 1
          simp only [List.getElem?_toArray, List.getElem?_cons_zero, List.getElem?_cons_succ] at a0 a1
          have f0 := A2.frozen 0
          have f1 := A2.frozen 1
          obtain ⟨R3, A3⟩ := R2.put2 A2 hgk (by decide) (by decide) (by decide) (by decide) (.int .i64 (a' : Int)) (.bool v')
          have O3 := own_same (w' := (w2.setCell ⟨K, 0, none⟩ (.int .i64 (a' : Int))).setCell ⟨K, 1, none⟩ (.bool v')) O2 (fun k hk => by
            have hne : k ≠ K := fun e => own_ne O2 A2 (by decide) (e ▸ hk)
            rw [Below.heap_setCell _ _ _ _ hne, Below.heap_setCell _ _ _ _ hne])
          obtain ⟨W3, hW3⟩ : ∃ W3, (w2.setCell ⟨K, 0, none⟩ (.int .i64 (a' : Int))).setCell ⟨K, 1, none⟩ (.bool v') = W3 := ⟨_, rfl⟩
          have R3 := Lib.hid R3
          have A3 := Lib.hid A3
          have O3 := Lib.hid O3
          rw [hW3] at R3 A3 O3
          have Hw3 := Lib.hid hW3
          clear A2 O2 R2 hW3
          go_wp2_with fail
          rw [Hw3.out]
          refine (HO.out _ R3.out.enter).mono ?_
          rintro e w4 ⟨rfl, hq4⟩
          have R4 := R3.out.below hq4
          have A4 := A3.out.same (hq4.block _ A3.out.lt)
          have O4 := own_same O3.out (fun k hk => hq4.block k (O3.out.lt k hk).2)
          clear hq4 R3 A3 O3 Hw3 a0 a1 f0 f1 HO RR AA OO
          go_wp2_with fail
          refine (HX.out _ R4.enter).mono ?_
          rintro e w5 ⟨rfl, R5⟩
          have A5 := (A4.keep R5.keep (by decide) (by decide) (by decide)).alloc (.cells #[.int .u64 (d'.a : Int), .int .u32 (d'.n : Int), .int .i64 (d'.id : Int), .int .i64 (d'.f : Int)] 100)
          have O5 := (own_keep O4 R5.keep (by decide) (by decide) (by decide)).alloc (.cells #[.int .u64 (d'.a : Int), .int .u32 (d'.n : Int), .int .i64 (d'.id : Int), .int .i64 (d'.f : Int)] 100)
          have R5 := (R4.leave R5).alloc (.cells #[.int .u64 (d'.a : Int), .int .u32 (d'.n : Int), .int .i64 (d'.id : Int), .int .i64 (d'.f : Int)] 100)
          rw [Hm.out] at O5
          have hnews := World.news_of_block (w := w5.alloc (.cells #[.int .u64 (d'.a : Int), .int .u32 (d'.n : Int), .int .i64 (d'.id : Int), .int .i64 (d'.f : Int)] 100)) (heap_alloc_new w5 _)
          have hbase := R5.keep.size
          clear A4 O4 R4 HX
          have R5 := Lib.hid R5
          have A5 := Lib.hid A5
          have O5 := Lib.hid O5
          have HW := Lib.hid hnews
          clear hnews
          go_wp2_with (at_builtin; refine wpList_append_lies _ rfl (.tmp 40) (.tmp 46) 145 rfl w.heap.size 100 i0 _ 4 32 Try.underlying145 HI.out HZ0.out HZ1.out HZ2.out rfl (by decide) (.slice (some ⟨gr, 0, none⟩) (m + 1) cap) (m + 1) (desCells (l ++ [d])) rfl O5.out ⟨w5.heap.size, 0, none⟩ 1 1 (De.cells d') rfl rfl HW.out (des_one d') (by decide) (by unfold maxLen; omega) (by omega) hbase (w5.heap.size + 1) (by simp) ?_; intro g2 cap2 w6 hown hgrow hat hlt2)
          have R6 := R5.out.grown O5.out (Nat.le_refl _) hgrow (by decide) (by decide) (by decide) (by decide)
          have A6 := A5.out.grown O5.out hgrow (by decide)
          have H6 := Lib.hid hown
          have H7 := Lib.hid R6
          clear hgrow hat hown R6
          go_roundw
          case rel =>
            refine ⟨l ++ [d], d', f, a', v', ⟨H7.out, ?_, A6, Hgo.out, ?_, hal2, Hok.out, hgk⟩⟩
            · rw [List.length_append, Hm.out, desCells_append]
              have := H6.out
              simpa [desCells] using this
            · rw [List.length_append, Hm.out]
              have := Hs.out
              simp
              omega
          case measure =>
            have := Hs.out
            simp [lenV]
            omega
  · have RL : RestL c w W1.heap.size M V (.slice (some ⟨W1.heap.size + 1, 0, none⟩) 1 1) [] d0 (M - 1) c.q.na c.q.nw (((W1.alloc (.cells #[.int .i64 (c.q.na : Int), .bool c.q.nw] 69)).alloc (.cells #[.int .u64 (d0.a : Int), .int .u32 (d0.n : Int), .int .i64 (d0.id : Int), .int .i64 (d0.f : Int)] 100)).drew) :=
      ⟨((E1.out.alloc _).alloc _).drew, own_one (Sp.Blk.new2 W1 _ 100 _).drew (by omega) rfl, ((Blk.new W1 69 _).alloc _).drew, HV.out, by simp; omega, HQ.out.na, HD.out, by omega⟩
    obtain ⟨W2, hW2⟩ : ∃ W2, (((W1.alloc (.cells #[.int .i64 (c.q.na : Int), .bool c.q.nw] 69)).alloc (.cells #[.int .u64 (d0.a : Int), .int .u32 (d0.n : Int), .int .i64 (d0.id : Int), .int .i64 (d0.f : Int)] 100)).drew) = W2 := ⟨_, rfl⟩
    obtain ⟨G, hG⟩ : ∃ G, W1.heap.size + 1 = G := ⟨_, rfl⟩
    obtain ⟨K, hK⟩ : ∃ K, W1.heap.size = K := ⟨_, rfl⟩
    rw [hW2] at RL ⊢
    rw [hG] at RL ⊢
    rw [hK] at RL ⊢
    clear hW2 hK hG
    clear p5 p6 b0 b1 b2 b3 hlt hne hlt2 E1 hw1
    go_wp2_with fail
    go_loopw [6] (fun s wr => ∃ l d f a v, RestL c w K M V s l d f a v wr) (fun s _ => M - lenV s)
    case atStart => exact ⟨_, _, _, _, _, RL⟩
    case round =>
      obtain ⟨l, d, f, a, v, RL⟩ := hrel
      obtain ⟨gr, cap, rfl, hge, hltg⟩ := RL.own.form (by omega)
      have hcl := desCells_at (l ++ [d]) l.length (by simp)
      rw [List.getElem_append_right (by omega)] at hcl
      simp only [Nat.sub_self, List.getElem_cons_zero] at hcl
      have hrow := RL.own.cells (g := gr) rfl
      have r0 := hrow _ _ hcl.1
      have r1 := hrow _ _ hcl.2.1
      have r2 := hrow _ _ hcl.2.2.1
      have r3 := hrow _ _ hcl.2.2.2
      have HB := fun W => has_any d RL.ok 1 (.inl rfl) W
      rw [addr_zero] at r0 r1 r2 r3
      have a0 := RL.at_.cell 0
      have a1 := RL.at_.cell 1
      simp only [List.getElem?_toArray, List.getElem?_cons_zero, List.getElem?_cons_succ] at a0 a1
      have f0 := RL.at_.frozen 0
      have f1 := RL.at_.frozen 1
      have hlt := RL.rm.lt
      have hltk := RL.at_.lt
      have hsum := RL.sum
      have HR := Lib.hid RL
      obtain ⟨m, hm⟩ : ∃ m, l.length = m := ⟨_, rfl⟩
      rw [hm] at r0 r1 r2 r3 hsum ⊢
      have hmb : m ≤ 63 := by omega
      have hw2 := RL.rm.keep.size
      have hgk := RL.ge
      have hal := RL.lt
      clear hcl hrow RL
      unfold De.v at HB
      cases hb : d.bit 1
      · rw [hb] at HB
        have HB := Lib.hid HB
        obtain rfl : some (l ++ [d]) = V := by rw [← HR.out.go, ringGo_end hb]
        have Hm := Lib.hid hm
        clear hm a0 a1 f0 f1 hltk hsum hb
        go_wp2_with fail
        refine (HB.out _).mono ?_
        rintro e w1 ⟨rfl, hq⟩
        go_wp2_with fail
        go_ret
        refine ⟨HR.out.rm.below hq, some ⟨gr, 0, none⟩, cap, ?_, ?_⟩
        · rw [List.length_append, Hm.out]; rfl
        · have := own_same HR.out.own (fun k hk => hq.block k (HR.out.own.lt k hk).2)
          rw [List.length_append]
          exact this
      · rw [hb] at HB
        have HB := Lib.hid HB
        cases f with
        | zero =>
          obtain rfl : none = V := by rw [← HR.out.go, ringGo_none hb]
          have hno : decide ((m : Int) + 1 < (M : Int)) = false := decide_eq_false (by omega)
          have Hm := Lib.hid hm
          clear hm a0 a1 f0 f1 hltk hsum hb
          go_wp2_with fail
          refine (HB.out _).mono ?_
          rintro e w1 ⟨rfl, hq⟩
          go_wp2_with fail
          refine (req_no _).mono ?_
          rintro e w2 ⟨he, rfl⟩
          unfold Bad at he
          subst he
          exact ⟨rfl, HR.out.rm.below hq, rfl⟩
        | succ f =>
          have hyes : decide ((m : Int) + 1 < (M : Int)) = true := decide_eq_true (by omega)
          have Hm := Lib.hid hm
          have Hs := Lib.hid hsum
          have Hb := Lib.hid hb
          clear hm hsum hb
          go_wp2_with fail
          refine (HB.out _).mono ?_
          rintro e w1 ⟨rfl, hq⟩
          have R1 := HR.out.rm.below hq
          have A1 := HR.out.at_.same (hq.block _ HR.out.at_.lt)
          have O1 := own_same HR.out.own (fun k hk => hq.block k (HR.out.own.lt k hk).2)
          clear hq r0 r1 r2 r3 a0 a1 f0 f1
          have a0 := A1.cell 0
          have a1 := A1.cell 1
          simp only [List.getElem?_toArray, List.getElem?_cons_zero, List.getElem?_cons_succ] at a0 a1
          have RR := Lib.hid R1
          have AA := Lib.hid A1
          have OO := Lib.hid O1
          clear R1 A1 O1
          go_wp2_with fail
          refine (req_yes _).mono ?_
          rintro e w2 ⟨rfl, rfl⟩
          go_wp2_with fail
          have HA := after_any RR.out a 1 v HQ.out.s1 HQ.out.s2 hal HQ.out.s1
          have HO := fun W (h : Rm c W W) => offset_any h (stA c.q.size a 1) (stW c.q.size a 1 v) (by have := HQ.out.r; have := stA_lt hal HQ.out.s1; obtain ⟨lvx, hMx⟩ := RR.out.get; have := hMx.len; omega)
          have HX := fun W (h : Rm c W W) => desc_any h (c.q.ring + 16 * stA c.q.size a 1) (by have := HQ.out.r; have := stA_lt hal HQ.out.s1; omega)
          have hok := deAt_ok c.xs (c.q.ring + 16 * stA c.q.size a 1) (by have := HQ.out.r; have := stA_lt hal HQ.out.s1; omega)
          have hgo := (ringGo_step (f := f) (xs := c.xs) (ring := c.q.ring) (size := c.q.size) (a := a) (l := l) Hb.out).symm.trans HR.out.go
          have hal2 := stA_lt hal HQ.out.s1
          rw [show ((1 : Nat) : Int) = 1 from rfl] at HA
          obtain ⟨a', ea⟩ : ∃ a', stA c.q.size a 1 = a' := ⟨_, rfl⟩
          obtain ⟨v', ev⟩ : ∃ v', stW c.q.size a 1 v = v' := ⟨_, rfl⟩
          rw [ea] at HA HO HX hok hgo hal2
          rw [ev] at HA HO
          obtain ⟨d', ed⟩ : ∃ d', deAt c.xs (c.q.ring + 16 * a') = d' := ⟨_, rfl⟩
          obtain ⟨p', ep⟩ : ∃ p', ((c.q.ring + 16 * a' : Nat) : Int) = p' := ⟨_, rfl⟩
          rw [ed] at HX hok hgo
          rw [ep] at HX HO
          have HO := Lib.hid HO
          unfold De.v at HX
          have HX := Lib.hid HX
          have Hok := Lib.hid hok
          have Hgo := Lib.hid hgo
          clear ea ev ed ep hok hgo
          refine HA.mono ?_
          rintro e w2 ⟨rfl, R2⟩
          clear HA a0 a1
          have A2 := AA.out.keep R2.keep (by decide) (by decide) (by decide)
          have O2 := own_keep OO.out R2.keep (by decide) (by decide) (by decide)
          have R2 := RR.out.leave R2
          have a0 := A2.cell 0
          have a1 := A2.cell 1
          simp only [List.getElem?_toArray, List.getElem?_cons_zero, List.getElem?_cons_succ] at a0 a1
          have f0 := A2.frozen 0
          have f1 := A2.frozen 1
          obtain ⟨R3, A3⟩ := R2.put2 A2 hgk (by decide) (by decide) (by decide) (by decide) (.int .i64 (a' : Int)) (.bool v')
          have O3 := own_same (w' := (w2.setCell ⟨K, 0, none⟩ (.int .i64 (a' : Int))).setCell ⟨K, 1, none⟩ (.bool v')) O2 (fun k hk => by
            have hne : k ≠ K := fun e => own_ne O2 A2 (by decide) (e ▸ hk)
            rw [Below.heap_setCell _ _ _ _ hne, Below.heap_setCell _ _ _ _ hne])
          obtain ⟨W3, hW3⟩ : ∃ W3, (w2.setCell ⟨K, 0, none⟩ (.int .i64 (a' : Int))).setCell ⟨K, 1, none⟩ (.bool v') = W3 := ⟨_, rfl⟩
          have R3 := Lib.hid R3
          have A3 := Lib.hid A3
          have O3 := Lib.hid O3
          rw [hW3] at R3 A3 O3
          have Hw3 := Lib.hid hW3
          clear A2 O2 R2 hW3
          go_wp2_with fail
          rw [Hw3.out]
          refine (HO.out _ R3.out.enter).mono ?_
          rintro e w4 ⟨rfl, hq4⟩
          have R4 := R3.out.below hq4
          have A4 := A3.out.same (hq4.block _ A3.out.lt)
          have O4 := own_same O3.out (fun k hk => hq4.block k (O3.out.lt k hk).2)
          clear hq4 R3 A3 O3 Hw3 a0 a1 f0 f1 HO RR AA OO
          go_wp2_with fail
          refine (HX.out _ R4.enter).mono ?_
          rintro e w5 ⟨rfl, R5⟩
          have A5 := (A4.keep R5.keep (by decide) (by decide) (by decide)).alloc (.cells #[.int .u64 (d'.a : Int), .int .u32 (d'.n : Int), .int .i64 (d'.id : Int), .int .i64 (d'.f : Int)] 100)
          have O5 := (own_keep O4 R5.keep (by decide) (by decide) (by decide)).alloc (.cells #[.int .u64 (d'.a : Int), .int .u32 (d'.n : Int), .int .i64 (d'.id : Int), .int .i64 (d'.f : Int)] 100)
          have R5 := (R4.leave R5).alloc (.cells #[.int .u64 (d'.a : Int), .int .u32 (d'.n : Int), .int .i64 (d'.id : Int), .int .i64 (d'.f : Int)] 100)
          rw [Hm.out] at O5
          have hnews := World.news_of_block (w := w5.alloc (.cells #[.int .u64 (d'.a : Int), .int .u32 (d'.n : Int), .int .i64 (d'.id : Int), .int .i64 (d'.f : Int)] 100)) (heap_alloc_new w5 _)
          have hbase := R5.keep.size
          clear A4 O4 R4 HX
          have R5 := Lib.hid R5
          have A5 := Lib.hid A5
          have O5 := Lib.hid O5
          have HW := Lib.hid hnews
          clear hnews
          go_wp2_with (at_builtin; refine wpList_append_lies _ rfl (.tmp 40) (.tmp 46) 145 rfl w.heap.size 100 i0 _ 4 32 Try.underlying145 HI.out HZ0.out HZ1.out HZ2.out rfl (by decide) (.slice (some ⟨gr, 0, none⟩) (m + 1) cap) (m + 1) (desCells (l ++ [d])) rfl O5.out ⟨w5.heap.size, 0, none⟩ 1 1 (De.cells d') rfl rfl HW.out (des_one d') (by decide) (by unfold maxLen; omega) (by omega) hbase (w5.heap.size + 1) (by simp) ?_; intro g2 cap2 w6 hown hgrow hat hlt2)
          have R6 := R5.out.grown O5.out (Nat.le_refl _) hgrow (by decide) (by decide) (by decide) (by decide)
          have A6 := A5.out.grown O5.out hgrow (by decide)
          have H6 := Lib.hid hown
          have H7 := Lib.hid R6
          clear hgrow hat hown R6
          go_roundw
          case rel =>
            refine ⟨l ++ [d], d', f, a', v', ⟨H7.out, ?_, A6, Hgo.out, ?_, hal2, Hok.out, hgk⟩⟩
            · rw [List.length_append, Hm.out, desCells_append]
              have := H6.out
              simpa [desCells] using this
            · rw [List.length_append, Hm.out]
              have := Hs.out
              simp
              omega
          case measure =>
            have := Hs.out
            simp [lenV]
            omega
end Go.Proofs.Ytbpgblmhacpjlaa
namespace Go.Proofs.Ytbpgblmhacpjlaa
open Go.RowKit

/-- what table, naming, answer -/
def ListP (c : Ctx) (w : World) (V : Option (List De)) (e : Ending) (w' : World) : Prop :=
  Rm c w w' ∧ match V with
  | none => Bad e
  | some l => ∃ A cap, e = .returned (.slice A l.length cap) ∧ w'.ownsRow w.heap.size 100 4 (.slice A l.length cap) l.length (desCells l)
def tabP (xs : List UInt8) (a k : Nat) : List De := (List.range k).map fun i => deAt xs (a + 16 * i)
theorem tabP_length (xs : List UInt8) (a k : Nat) : (tabP xs a k).length = k := by simp [tabP]
theorem tabP_succ (xs : List UInt8) (a k : Nat) : tabP xs a (k + 1) = tabP xs a k ++ [deAt xs (a + 16 * k)] := by simp [tabP, List.range_succ]
theorem tab_bad {xs : List UInt8} {d : De} (h : tabOk xs d = false) : ¬ (0 < d.n ∧ d.n % 16 = 0 ∧ d.n ≤ 1024 ∧ d.a + d.n ≤ xs.length) := by
  unfold tabOk at h
  simpa using h
set_option maxRecDepth 100000 in
set_option maxHeartbeats 1600000 in
theorem table_bad {c : Ctx} {wE w : World} (h : Rm c wE w) (d : De) (hd : d.Ok) (hb : tabOk c.xs d = false) :
    Calls Try.prog 91 #[.pointer (some ⟨c.gq, 0, none⟩), d.v] w (fun e w' => Rm c w w' ∧ Bad e) := by
  have hno := tab_bad hb
  have HE := Lib.hid h.enter
  have HP := fun W => place_any d hd W
  obtain ⟨lv1, hM1⟩ := h.get
  have hx := hM1.len
  have hmp := may_place hx d hd
  obtain ⟨p0, -⟩ := h.cells
  have hlt := h.lt
  have hne := Nat.ne_of_lt hlt
  have hn := hd.n
  unfold De.v at HP ⊢
  have HM := Lib.hid (fun W (h : Rm c W W) => h.may (plA d) (d.n : Int) (by omega))
  generalize plA d = P at *
  obtain ⟨n, en⟩ : ∃ n, d.n = n := ⟨_, rfl⟩
  rw [en] at HP HM hmp hno hn ⊢
  have HP := Lib.hid HP
  have HB := Lib.hid hmp
  clear h hb hM1 hx hmp en hd
  by_cases k1 : 0 < n
  · have q1 : (0 : Int) < (n : Int) := by omega
    by_cases k2 : n % 16 = 0
    · have q2 : (((n : Int) % 16) == 0) = true := by simp; omega
      by_cases k3 : n ≤ 1024
      · have q3 : (n : Int) ≤ 1024 := by omega
        have k4 : decide (d.a + n ≤ c.xs.length) = false := decide_eq_false (by omega)
        rw [HB.out, k4] at HM
        clear k1 k2 k3 k4 hno hn
        go_enter Try.func91, Try.ntmps91
        go_wp2_with (first
          | (go_at_call 90; ((with_reducible refine (HP.out _).mono ?_); rintro e w1 ⟨rfl, hq⟩; have R1 := (HE.out.alloc (.cells #[.int .u64 (d.a : Int), .int .u32 (n : Int), .int .i64 (d.id : Int), .int .i64 (d.f : Int)] 100)).below hq; obtain ⟨p0, -⟩ := R1.cells; have R1 := Lib.hid R1))
          | (go_at_call 50; ((with_reducible refine (HM.out _ R1.out.enter).mono ?_); rintro e w2 ⟨rfl, rfl⟩))
          | (go_at_call 89; ((with_reducible refine (req_no _).mono ?_); rintro e w3 ⟨he, rfl⟩; unfold Bad at he; subst he)))
        exact ⟨rfl, R1.out, rfl⟩
      · have q3 : (1024 : Int) < (n : Int) := by omega
        clear k1 k2 k3 hno hn
        go_enter Try.func91, Try.ntmps91
        go_wp2_with (first
          | (go_at_call 90; ((with_reducible refine (HP.out _).mono ?_); rintro e w1 ⟨rfl, hq⟩; have R1 := (HE.out.alloc (.cells #[.int .u64 (d.a : Int), .int .u32 (n : Int), .int .i64 (d.id : Int), .int .i64 (d.f : Int)] 100)).below hq; obtain ⟨p0, -⟩ := R1.cells; have R1 := Lib.hid R1))
          | (go_at_call 50; ((with_reducible refine (HM.out _ R1.out.enter).mono ?_); rintro e w2 ⟨rfl, rfl⟩))
          | (go_at_call 89; ((with_reducible refine (req_no _).mono ?_); rintro e w3 ⟨he, rfl⟩; unfold Bad at he; subst he)))
        exact ⟨rfl, R1.out, rfl⟩
    · have q2 : (((n : Int) % 16) == 0) = false := by simp; omega
      clear k1 k2 hno hn
      go_enter Try.func91, Try.ntmps91
      go_wp2_with (first
        | (go_at_call 90; ((with_reducible refine (HP.out _).mono ?_); rintro e w1 ⟨rfl, hq⟩; have R1 := (HE.out.alloc (.cells #[.int .u64 (d.a : Int), .int .u32 (n : Int), .int .i64 (d.id : Int), .int .i64 (d.f : Int)] 100)).below hq; obtain ⟨p0, -⟩ := R1.cells; have R1 := Lib.hid R1))
        | (go_at_call 50; ((with_reducible refine (HM.out _ R1.out.enter).mono ?_); rintro e w2 ⟨rfl, rfl⟩))
        | (go_at_call 89; ((with_reducible refine (req_no _).mono ?_); rintro e w3 ⟨he, rfl⟩; unfold Bad at he; subst he)))
      exact ⟨rfl, R1.out, rfl⟩
  · obtain rfl : n = 0 := by omega
    clear k1 hno hn
    have q1 : ((0 : Nat) : Int) = 0 := rfl
    rw [q1] at HP HM ⊢
    go_enter Try.func91, Try.ntmps91
    go_wp2_with (first
      | (go_at_call 90; ((with_reducible refine (HP.out _).mono ?_); rintro e w1 ⟨rfl, hq⟩; have R1 := (HE.out.alloc (.cells #[.int .u64 (d.a : Int), .int .u32 0, .int .i64 (d.id : Int), .int .i64 (d.f : Int)] 100)).below hq; obtain ⟨p0, -⟩ := R1.cells; have R1 := Lib.hid R1))
      | (go_at_call 50; ((with_reducible refine (HM.out _ R1.out.enter).mono ?_); rintro e w2 ⟨rfl, rfl⟩))
      | (go_at_call 89; ((with_reducible refine (req_no _).mono ?_); rintro e w3 ⟨he, rfl⟩; unfold Bad at he; subst he)))
    exact ⟨rfl, R1.out, rfl⟩
set_option maxRecDepth 100000 in
set_option maxHeartbeats 1600000 in
theorem table_ok {c : Ctx} {wE w : World} (h : Rm c wE w) (d : De) (hd : d.Ok) (hb : tabOk c.xs d = true) :
    Calls Try.prog 91 #[.pointer (some ⟨c.gq, 0, none⟩), d.v] w (ListP c w (some (tabL c.xs d))) := by
  have hyes : 0 < d.n ∧ d.n % 16 = 0 ∧ d.n ≤ 1024 ∧ d.a + d.n ≤ c.xs.length := by unfold tabOk at hb; simpa using hb
  have HE := Lib.hid h.enter
  obtain ⟨lv1, hM1⟩ := h.get
  have hx := hM1.len
  have hp : plA d = (d.a : Int) := by unfold plA; rw [if_pos (by omega)]
  have HP := fun W => place_any d hd W
  have hmp := may_place hx d hd
  have hm : decide (d.a + d.n ≤ c.xs.length) = true := decide_eq_true hyes.2.2.2
  obtain ⟨p0, -⟩ := h.cells
  have hlt := h.lt
  have hne := Nat.ne_of_lt hlt
  obtain ⟨i0, hi, hz0, hz1, hz2⟩ := info_parts Try.info100
  have HI := Lib.hid hi
  have HZ0 := Lib.hid hz0
  have HZ1 := Lib.hid hz1
  have HZ2 := Lib.hid hz2
  clear hi hz0 hz1 hz2
  unfold De.v at HP ⊢
  have HM := fun W (h : Rm c W W) => h.may (plA d) (d.n : Int) (by omega)
  rw [hmp, hm, hp] at HM
  rw [hp] at HP
  obtain ⟨T, hT⟩ : ∃ T, d.n = 16 * T := ⟨d.n / 16, by omega⟩
  have eL : tabL c.xs d = tabP c.xs d.a T := by unfold tabL tabP; rw [hT]; congr 2; omega
  rw [eL]
  obtain ⟨n, en⟩ : ∃ n, d.n = n := ⟨_, rfl⟩
  obtain ⟨a, ea⟩ : ∃ a, d.a = a := ⟨_, rfl⟩
  rw [en] at HP HM hyes hT ⊢
  rw [ea] at HP HM hyes ⊢
  have HP := Lib.hid HP
  have HM := Lib.hid HM
  have q1 : (0 : Int) < (n : Int) := by omega
  have q2 : (((n : Int) % 16) == 0) = true := by simp; omega
  have q3 : (n : Int) ≤ 1024 := by omega
  have hT1 : T ≤ 64 := by omega
  have HT := Lib.hid hT
  have ha : a ≤ 1048576 := by omega
  have HY := Lib.hid hyes
  clear h hb hM1 hx hmp en ea hd hm hp eL hT hyes
  go_enter Try.func91, Try.ntmps91
  go_wp2_with (first
    | (go_at_call 90; ((with_reducible refine (HP.out _).mono ?_); rintro e w1 ⟨rfl, hq⟩; have R1 := (HE.out.alloc (.cells #[.int .u64 (a : Int), .int .u32 (n : Int), .int .i64 (d.id : Int), .int .i64 (d.f : Int)] 100)).below hq; obtain ⟨p0, -⟩ := R1.cells; have R1 := Lib.hid R1))
    | (go_at_call 50; ((with_reducible refine (HM.out _ R1.out.enter).mono ?_); rintro e w2 ⟨rfl, rfl⟩))
    | (go_at_call 89; ((with_reducible refine (req_yes _).mono ?_); rintro e w3 ⟨rfl, rfl⟩)))
  go_loopw [7, 8] (fun s i wr => ∃ k j : Nat, k ≤ T ∧ Hid (j = 16 * k) ∧ i = .int .i64 (j : Int) ∧ Rm c w wr ∧ wr.ownsRow w.heap.size 100 4 s k (desCells (tabP c.xs a k))) (fun s _ _ => T - lenV s)
  case atStart => exact ⟨0, 0, Nat.zero_le _, rfl, rfl, R1.out, World.ownsRow_nil _ _ _ _⟩
  case round =>
    obtain ⟨k, j, hk, hj, rfl, R, own⟩ := hrel
    obtain ⟨A, cap, rfl⟩ := own_form own
    have HO := Lib.hid own
    have RR := Lib.hid R
    clear R own
    by_cases hkT : k < T
    · have hjn : (j : Int) < (n : Int) := by have := hj.out; have := HT.out; omega
      have hjb : j ≤ 1024 := by omega
      have HX := fun W (h : Rm c W W) => desc_any h (a + j) (by have := hj.out; have := HT.out; have := HY.out; omega)
      rw [Int.natCast_add] at HX
      obtain ⟨d', ed⟩ : ∃ d', deAt c.xs (a + j) = d' := ⟨_, rfl⟩
      rw [ed] at HX
      unfold De.v at HX
      have HX := Lib.hid HX
      have Hed := Lib.hid ed
      clear ed
      go_wp2_with fail
      refine (HX.out _ RR.out.enter).mono ?_
      rintro e w5 ⟨rfl, R5⟩
      have O5 := (own_keep HO.out R5.keep (by decide) (by decide) (by decide)).alloc (.cells #[.int .u64 (d'.a : Int), .int .u32 (d'.n : Int), .int .i64 (d'.id : Int), .int .i64 (d'.f : Int)] 100)
      have R5 := (RR.out.leave R5).alloc (.cells #[.int .u64 (d'.a : Int), .int .u32 (d'.n : Int), .int .i64 (d'.id : Int), .int .i64 (d'.f : Int)] 100)
      have hnews := World.news_of_block (w := w5.alloc (.cells #[.int .u64 (d'.a : Int), .int .u32 (d'.n : Int), .int .i64 (d'.id : Int), .int .i64 (d'.f : Int)] 100)) (heap_alloc_new w5 _)
      have hbase := R5.keep.size
      have R5 := Lib.hid R5
      have O5 := Lib.hid O5
      have HW := Lib.hid hnews
      clear hnews HX RR HO
      go_wp2_with (at_builtin; refine wpList_append_lies _ rfl (.tmp 40) (.tmp 46) 145 rfl w.heap.size 100 i0 _ 4 32 Try.underlying145 HI.out HZ0.out HZ1.out HZ2.out rfl (by decide) (.slice A k cap) k (desCells (tabP c.xs a k)) rfl O5.out ⟨w5.heap.size, 0, none⟩ 1 1 (De.cells d') rfl rfl HW.out (des_one d') (by decide) (by unfold maxLen; omega) (by omega) hbase (w5.heap.size + 1) (by simp) ?_; intro g2 cap2 w6 hown hgrow hat hlt2)
      have R6 := R5.out.grown O5.out (Nat.le_refl _) hgrow (by decide) (by decide) (by decide) (by decide)
      have H6 := Lib.hid hown
      have H7 := Lib.hid R6
      clear hgrow hat hown R6
      go_roundw
      case rel =>
        refine ⟨k + 1, j + 16, by omega, by have := hj.out; show _ = _; omega, by go_num, H7.out, ?_⟩
        rw [tabP_succ, desCells_append]
        have := H6.out
        rw [← Hed.out, hj.out] at this
        simpa [desCells] using this
      case measure => simp [lenV]; omega
    · have hjn : (n : Int) ≤ (j : Int) := by have := hj.out; have := HT.out; omega
      have hjb : j ≤ 1024 := by have := hj.out; omega
      obtain rfl : k = T := by omega
      go_wp2_with fail
      go_ret
      refine ⟨RR.out, A, cap, ?_, ?_⟩
      · rw [tabP_length]; rfl
      · rw [tabP_length]; exact HO.out
theorem table_any {c : Ctx} {wE w : World} (h : Rm c wE w) (d : De) (hd : d.Ok) :
    Calls Try.prog 91 #[.pointer (some ⟨c.gq, 0, none⟩), d.v] w (ListP c w (if tabOk c.xs d then some (tabL c.xs d) else none)) := by
  cases hb : tabOk c.xs d
  · exact table_bad h d hd hb
  · exact table_ok h d hd hb
end Go.Proofs.Ytbpgblmhacpjlaa

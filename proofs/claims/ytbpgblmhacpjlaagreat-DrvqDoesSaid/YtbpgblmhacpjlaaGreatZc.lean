/-
  A memory: May, Image, New; what it notes.
-/
import Derived.Test.YtbpgblmhacpjlaaGreatZb
import Derived.Deep.AppendLies
import Derived.Deep.Draws
import Derived.Laws.CopyOwn
import Derived.Deep.RegionLaw
import Derived.BigRegion
import Derived.Deep.RegionHeld3
namespace Go.Proofs.YtbpgblmhacpjlaaGreat
open Go.RowKit

section
variable {w w' : World} {g : Nat} {t : TypeId} {cs : Array Value}
theorem Blk.drew (h : Blk w g t cs) : Blk w.drew g t cs := h
theorem Blk.ne {g' : Nat} {t' : TypeId} {cs' : Array Value} (h : Blk w g t cs) (h' : Blk w g' t' cs') (hne : t ≠ t') : g ≠ g' := by
  rintro rfl
  unfold Blk at h h'
  rw [h] at h'
  injection h' with h'
  injection h' with _ ht
  exact hne ht
theorem own_ne {base : Nat} {e : TypeId} {size n : Nat} {v : Value} {xs : List Value} (h : w.ownsRow base e size v n xs) (hg : Blk w g t cs) (hne : e ≠ t) : v.ownBlock ≠ some g := by
  rcases h.2 with ⟨rfl, _⟩ | ⟨g', cap, cur, rfl, _, hh, _⟩
  · simp [Value.ownBlock]
  · intro he
    have : g' = g := by simpa [Value.ownBlock] using he
    subst this
    exact Blk.ne (t := e) hh hg hne rfl
theorem own_same {base : Nat} {e : TypeId} {size n : Nat} {v : Value} {xs : List Value} (h : w.ownsRow base e size v n xs) (hb : ∀ k, v.ownBlock = some k → w'.heap[k]? = w.heap[k]?) : w'.ownsRow base e size v n xs := by
  refine ⟨h.1, ?_⟩
  rcases h.2 with hn | ⟨g, cap, cur, rfl, h1, hgg, rest⟩
  · exact .inl hn
  · exact .inr ⟨g, cap, cur, rfl, h1, (hb g rfl).trans hgg, rest⟩
end

/-- An access. -/
structure Acc where
  ag : Int
  at_ : Int
  n : Int
  wr : Bool
def accCells (a : Acc) : List Value := [.int .i64 a.ag, .int .i64 a.at_, .int .i64 a.n, .bool a.wr]
def logCells (l : List Acc) : List Value := l.flatMap accCells
theorem logCells_append (l m : List Acc) : logCells (l ++ m) = logCells l ++ logCells m := by simp [logCells]
theorem logCells_length (l : List Acc) : (logCells l).length = l.length * 4 := by
  induction l with
  | nil => rfl
  | cons a l ih => simp only [logCells, List.flatMap_cons, List.length_append, List.length_cons] at ih ⊢; rw [ih]; simp [accCells]; omega

/-- The memory behind a pointer: its block g, its bytes' block gb, its log's value lv, its log, the oldest access's place. -/
structure MemR (B g gb : Nat) (lv : Value) (xs : List UInt8) (ag : Int) (lg : List Acc) (old : Nat) (w : World) : Prop where
  hB : B ≤ g
  hBb : B ≤ gb
  blk : Blk w g 97 #[.slice (some ⟨gb, 0, none⟩) xs.length xs.length, .int .i64 ag, lv, .int .i64 (old : Int)]
  row : Blk w gb 5 (xs.map byteV).toArray
  log : w.ownsRow B 121 4 lv lg.length (logCells lg)
  len : xs.length ≤ 1048576
  pos : 0 < xs.length
  most : lg.length ≤ 4096
  full : old = 0 ∨ (lg.length = 4096 ∧ old < 4096)
/-- .. whatever its log. -/
def Mem (B g gb : Nat) (lv : Value) (xs : List UInt8) (w : World) : Prop := ∃ ag lg old, MemR B g gb lv xs ag lg old w

/-- Nothing but a memory's own blocks is another one. -/
structure Touch (g gb : Nat) (lv : Value) (w w' : World) : Prop where
  os : w'.os = w.os
  tape : w'.tape = w.tape
  output : w'.output = w.output
  size : w.heap.size ≤ w'.heap.size
  block : ∀ k, k < w.heap.size → k ≠ g → k ≠ gb → lv.ownBlock ≠ some k → w'.heap[k]? = w.heap[k]?

section
variable {B g gb : Nat} {lv : Value} {xs : List UInt8} {ag : Int} {lg : List Acc} {old : Nat} {w w' : World}
theorem MemR.ne (h : MemR B g gb lv xs ag lg old w) : g ≠ gb := h.blk.ne h.row (by decide)
theorem MemR.lne (h : MemR B g gb lv xs ag lg old w) : lv.ownBlock ≠ some g := own_ne h.log h.blk (by decide)
theorem MemR.lneb (h : MemR B g gb lv xs ag lg old w) : lv.ownBlock ≠ some gb := own_ne h.log h.row (by decide)
theorem MemR.lge (h : MemR B g gb lv xs ag lg old w) {k : Nat} (hk : lv.ownBlock = some k) : B ≤ k ∧ k < w.heap.size := h.log.lt k hk
theorem MemR.base (h : MemR B g gb lv xs ag lg old w) : B ≤ w.heap.size := by have := h.hB; have := h.blk.lt; omega
theorem MemR.c0 (h : MemR B g gb lv xs ag lg old w) : w.cell? ⟨g, 0, none⟩ = some (.slice (some ⟨gb, 0, none⟩) xs.length xs.length) := h.blk.cell 0
theorem MemR.c1 (h : MemR B g gb lv xs ag lg old w) : w.cell? ⟨g, 1, none⟩ = some (.int .i64 ag) := h.blk.cell 1
theorem MemR.c2 (h : MemR B g gb lv xs ag lg old w) : w.cell? ⟨g, 2, none⟩ = some lv := h.blk.cell 2
theorem MemR.c3 (h : MemR B g gb lv xs ag lg old w) : w.cell? ⟨g, 3, none⟩ = some (.int .i64 (old : Int)) := h.blk.cell 3
theorem MemR.fz (h : MemR B g gb lv xs ag lg old w) (i : Nat) : w.frozen? ⟨g, i, none⟩ = false := h.blk.frozen i
theorem MemR.byte (h : MemR B g gb lv xs ag lg old w) (j : Nat) (hj : j < xs.length) : w.cell? ⟨gb, j, none⟩ = some (byteV xs[j]) := by
  rw [h.row.cell j]; simp [hj]
theorem MemR.kept (h : MemR B g gb lv xs ag lg old w) (h1 : w'.heap[g]? = w.heap[g]?) (h2 : w'.heap[gb]? = w.heap[gb]?) (h3 : ∀ k, lv.ownBlock = some k → w'.heap[k]? = w.heap[k]?) : MemR B g gb lv xs ag lg old w' :=
  ⟨h.hB, h.hBb, h.blk.same h1, h.row.same h2, own_same h.log h3, h.len, h.pos, h.most, h.full⟩
theorem MemR.below {n : Nat} (h : MemR B g gb lv xs ag lg old w) (hb : Below n w w') (hn : w.heap.size ≤ n) : MemR B g gb lv xs ag lg old w' :=
  h.kept (hb.block g (by have := h.blk.lt; omega)) (hb.block gb (by have := h.row.lt; omega)) (fun k hk => hb.block k (by have := (h.lge hk).2; omega))
theorem Mem.kept (h : Mem B g gb lv xs w) (h1 : w'.heap[g]? = w.heap[g]?) (h2 : w'.heap[gb]? = w.heap[gb]?) (h3 : ∀ k, lv.ownBlock = some k → w'.heap[k]? = w.heap[k]?) : Mem B g gb lv xs w' := by
  obtain ⟨ag, lg, old, h⟩ := h; exact ⟨ag, lg, old, h.kept h1 h2 h3⟩
theorem Mem.below {n : Nat} (h : Mem B g gb lv xs w) (hb : Below n w w') (hn : w.heap.size ≤ n) : Mem B g gb lv xs w' := by
  obtain ⟨ag, lg, old, h⟩ := h; exact ⟨ag, lg, old, h.below hb hn⟩
theorem Mem.drew (h : Mem B g gb lv xs w) : Mem B g gb lv xs w.drew := h.kept rfl rfl fun _ _ => rfl
theorem Mem.len (h : Mem B g gb lv xs w) : xs.length ≤ 1048576 := by obtain ⟨ag, lg, old, h⟩ := h; exact h.len
theorem Mem.base (h : Mem B g gb lv xs w) : B ≤ w.heap.size := by obtain ⟨ag, lg, old, h⟩ := h; exact h.base
theorem Mem.lt (h : Mem B g gb lv xs w) : g < w.heap.size ∧ gb < w.heap.size ∧ ∀ k, lv.ownBlock = some k → k < w.heap.size := by
  obtain ⟨ag, lg, old, h⟩ := h; exact ⟨h.blk.lt, h.row.lt, fun k hk => (h.lge hk).2⟩
theorem Mem.ge (h : Mem B g gb lv xs w) : B ≤ g ∧ B ≤ gb ∧ ∀ k, lv.ownBlock = some k → B ≤ k := by
  obtain ⟨ag, lg, old, h⟩ := h; exact ⟨h.hB, h.hBb, fun k hk => (h.lge hk).1⟩
/-- A block of another element type is none of a memory's. -/
theorem Mem.far (h : Mem B g gb lv xs w) {k : Nat} {t : TypeId} {cs : Array Value} {fr : Nat × Nat} (hk : w.heap[k]? = some (.cells cs t fr)) (h1 : t ≠ 97) (h2 : t ≠ 5) (h3 : t ≠ 121) : k ≠ g ∧ k ≠ gb ∧ lv.ownBlock ≠ some k := by
  obtain ⟨ag, lg, old, h⟩ := h
  have a1 := h.blk
  have a2 := h.row
  unfold Blk at a1 a2
  refine ⟨?_, ?_, ?_⟩
  · rintro rfl; rw [a1] at hk; injection hk with hk; injection hk with _ e; exact h1 e.symm
  · rintro rfl; rw [a2] at hk; injection hk with hk; injection hk with _ e; exact h2 e.symm
  · intro e
    rcases h.log.2 with ⟨rfl, _⟩ | ⟨g', cap, cur, rfl, _, hh, _⟩
    · simp [Value.ownBlock] at e
    · have : g' = k := by simpa [Value.ownBlock] using e
      subst this
      rw [hh] at hk; injection hk with hk; injection hk with _ e; exact h3 e.symm
theorem Touch.refl : Touch g gb lv w w := ⟨rfl, rfl, rfl, Nat.le_refl _, fun _ _ _ _ _ => rfl⟩
theorem Touch.of_below (hb : Below w.heap.size w w') : Touch g gb lv w w' := ⟨hb.os, hb.tape, hb.output, hb.size, fun k hk _ _ _ => hb.block k hk⟩
theorem Touch.under (h : Mem B g gb lv xs w) (ht : Touch g gb lv w w') : Below B w w' :=
  ⟨ht.os, ht.tape, ht.output, ht.size, fun k hk => ht.block k (by have := h.base; omega) (by have := h.ge.1; omega) (by have := h.ge.2.1; omega) (fun e => by have := h.ge.2.2 k e; omega)⟩
/-- Two steps, of which the first may have laid a new log. -/
theorem Touch.trans {lv1 : Value} {w1 : World} (h1 : Touch g gb lv w w1) (h2 : Touch g gb lv1 w1 w') (hl : ∀ k, lv1.ownBlock = some k → lv.ownBlock = some k ∨ w.heap.size ≤ k) : Touch g gb lv w w' :=
  ⟨h2.os.trans h1.os, h2.tape.trans h1.tape, h2.output.trans h1.output, Nat.le_trans h1.size h2.size, fun k hk a b c =>
    (h2.block k (by have := h1.size; omega) a b (fun e => by rcases hl k e with e | e; exact c e; omega)).trans (h1.block k hk a b c)⟩

theorem may_yes (h : Mem B g gb lv xs w) (a n : Int) (h0 : 0 ≤ n) (h1 : 0 ≤ a) (h2 : a + n ≤ xs.length) :
    Calls Tryz.prog 40 #[.pointer (some ⟨g, 0, none⟩), .int .i64 a, .int .i64 n] w fun e w' => e = .returned (.bool true) ∧ w = w' := by
  obtain ⟨ag, lg, old, h⟩ := h
  have hc := h.c0
  have hl := h.len
  clear h
  go_enter Tryz.func40, Tryz.ntmps40
  go_wp2
  go_ret
  exact ⟨ret_bool (decide_eq_true (by omega)), rfl⟩
theorem may_no (h : Mem B g gb lv xs w) (a n : Int) (hn : n < 9223372036854775808) (hno : ¬ (0 ≤ n ∧ 0 ≤ a ∧ a + n ≤ xs.length)) :
    Calls Tryz.prog 40 #[.pointer (some ⟨g, 0, none⟩), .int .i64 a, .int .i64 n] w fun e w' => e = .returned (.bool false) ∧ w = w' := by
  obtain ⟨ag, lg, old, h⟩ := h
  have hc := h.c0
  have hl := h.len
  clear h
  by_cases h0 : 0 ≤ n
  · by_cases h1 : 0 ≤ a
    · have h2 : (xs.length : Int) - n < a := by omega
      clear hno
      go_enter Tryz.func40, Tryz.ntmps40
      go_wp2
      go_ret
      exact ⟨ret_bool (decide_eq_false (by omega)), rfl⟩
    · clear hno
      go_enter Tryz.func40, Tryz.ntmps40
      go_wp2
      go_ret
      exact ⟨rfl, rfl⟩
  · clear hno
    go_enter Tryz.func40, Tryz.ntmps40
    go_wp2
    go_ret
    exact ⟨rfl, rfl⟩
/-- do n bytes lie at a? -/
def mayB (xs : List UInt8) (a n : Int) : Bool := decide (0 ≤ n ∧ 0 ≤ a ∧ a + n ≤ xs.length)
theorem may_any (h : Mem B g gb lv xs w) (a n : Int) (hn : n < 9223372036854775808) :
    Calls Tryz.prog 40 #[.pointer (some ⟨g, 0, none⟩), .int .i64 a, .int .i64 n] w fun e w' => e = .returned (.bool (mayB xs a n)) ∧ w = w' := by
  by_cases k : 0 ≤ n ∧ 0 ≤ a ∧ a + n ≤ xs.length
  · rw [show mayB xs a n = true from decide_eq_true k]; exact may_yes h a n k.1 k.2.1 k.2.2
  · rw [show mayB xs a n = false from decide_eq_false k]; exact may_no h a n hn k
theorem MemR.text (h : MemR B g gb lv xs ag lg old w) (a n : Nat) (hn : a + n ≤ xs.length) (cap : Nat) :
    (convert 65 9 (.slice (some ⟨gb, a, none⟩) n cap)).run Tryz.prog w = .ok (.string ⟨((xs.drop a).take n).toArray⟩) w := by
  have e : n = ((xs.drop a).take n).length := by simp; omega
  conv => lhs; rw [e]
  refine run_convert_bytes_back w 65 9 5 ⟨gb, a, none⟩ cap _ Tryz.underlying65 Tryz.underlying5 Tryz.underlying9 ?_
  intro j hj
  have e : (⟨gb, a, none⟩ : Addr).add j = ⟨gb, a + j, none⟩ := by unfold Addr.add; split <;> simp [*]
  have hj' : a + j < xs.length := by simp at hj; omega
  rw [e, h.byte (a + j) hj']
  simp [byteV]
theorem image_m (h : Mem B g gb lv xs w) :
    Calls Tryz.prog 26 #[.pointer (some ⟨g, 0, none⟩)] w fun e w' => e = .returned (.string ⟨xs.toArray⟩) ∧ w = w' := by
  obtain ⟨ag, lg, old, h⟩ := h
  have hc := h.c0
  have ht := h.text 0 xs.length (by omega) xs.length
  rw [List.drop_zero, List.take_length] at ht
  clear h
  go_enter Tryz.func26, Tryz.ntmps26
  go_wp2
  go_ret
  exact ⟨rfl, rfl⟩
end
theorem zeros_map (n : Nat) : ((List.replicate n (0 : UInt8)).map byteV) = (madeCells (Value.cells (.int .u8 0)) (n * 1)).toList := by
  rw [Nat.mul_one, List.map_replicate]; exact (toList_madeCells_one _ n).symm
/-- a row without spare, known whole -/
theorem blk_of_own {w : World} {B g n e size : Nat} {xs : List Value} (h : w.ownsRow B e size (.slice (some ⟨g, 0, none⟩) n n) n xs) : Blk w g e xs.toArray := by
  obtain ⟨hl, h2⟩ := h
  rcases h2 with ⟨h', _⟩ | ⟨g', cap', cur, h', hB, hh, h3, h4, h5, h6⟩
  · simp at h'
  · simp only [Value.slice.injEq, Option.some.injEq, Addr.mk.injEq, and_true, true_and] at h'
    obtain ⟨rfl, rfl⟩ := h'
    have e : cur = xs.toArray := by
      rw [List.take_of_length_le (by rw [Array.length_toList, h5]; exact Nat.le_refl _)] at h6
      rw [← h6]
    subst e
    exact hh
def MadeMem (n : Nat) (w : World) (e : Ending) (w' : World) : Prop :=
  ∃ g gb lv, e = .returned (.tuple #[.pointer (some ⟨g, 0, none⟩), .int .i64 0]) ∧ Mem w.heap.size g gb lv (List.replicate n 0) w' ∧ Below w.heap.size w w'
set_option maxRecDepth 100000 in
set_option maxHeartbeats 400000 in
theorem new_ok (n : Nat) (w : World) (h1 : 64 ≤ n) (h2 : n ≤ 1048576) :
    Calls Tryz.prog 22 #[.int .i64 n] w (MadeMem n w) := by
  obtain ⟨i0, hi, hz0, hz1, hz2⟩ := info_parts Tryz.info5
  have HI := Lib.hid hi
  have HZ0 := Lib.hid hz0
  have HZ1 := Lib.hid hz1
  have HZ2 := Lib.hid hz2
  clear hi hz0 hz1 hz2
  go_enter Tryz.func22, Tryz.ntmps22
  go_wp2_with (at_make; refine wpList_make_full _ rfl _ _ 65 rfl w.heap.size 5 i0 (.int .u8 0) 1 Tryz.underlying65 HI.out HZ0.out HZ1.out .i64 .i64 n n n rfl rfl rfl rfl (by rw [HZ2.out]; omega) (by unfold maxLen; omega) (Nat.le_refl _) ?_; intro w1 hrow hgrow)
  go_ret2
  rw [← zeros_map] at hrow
  have hblk := blk_of_own hrow
  have hb : Below w.heap.size w w1 := (Below.refl _ _).grown hgrow (Nat.le_refl _) (by simp)
  have hz := hb.size
  refine ⟨w1.heap.size, w.heap.size, .slice none 0 0, rfl, ⟨0, [], 0, hz, Nat.le_refl _, ?_, hblk.alloc _, World.ownsRow_nil _ _ _ _, by simpa using h2, by simp; omega, by simp, .inl rfl⟩, hb.alloc hz _⟩
  rw [List.length_replicate]
  exact Blk.new _ _ _
theorem word_yes (n : Int) (w : World) (h : n = 1 ∨ n = 2 ∨ n = 4 ∨ n = 8) :
    Calls Tryz.prog 51 #[.int .i64 n] w fun e w' => e = .returned (.bool true) ∧ w = w' := by
  rcases h with rfl | rfl | rfl | rfl
  all_goals
    go_enter Tryz.func51, Tryz.ntmps51
    go_wp2
    go_ret
    exact ⟨rfl, rfl⟩
end Go.Proofs.YtbpgblmhacpjlaaGreat
namespace Go.Proofs.YtbpgblmhacpjlaaGreat
open Go.RowKit

theorem Tryz.info121 : (Tryz.prog.info? 121).map (fun i => (i.zero, i.size, i.bytes)) = some (some (.agg #[.int .i64 0, .int .i64 0, .int .i64 0, .bool false]), 4, 32) := by kernel_rfl
theorem own_form {w : World} {B e size n : Nat} {v : Value} {xs : List Value} (h : w.ownsRow B e size v n xs) : ∃ A cap, v = .slice A n cap := by
  rcases h.2 with ⟨rfl, rfl⟩ | ⟨g, cap, cur, rfl, _⟩
  · exact ⟨none, 0, rfl⟩
  · exact ⟨_, _, rfl⟩
theorem acc_one (a : Acc) : ∀ u ∈ accCells a, u.oneCell' = true := by
  intro u hu
  simp only [accCells, List.mem_cons, List.not_mem_nil, or_false] at hu
  rcases hu with rfl | rfl | rfl | rfl <;> rfl

/-- What an access leaves. -/
def Noted (B g gb : Nat) (lv : Value) (xs : List UInt8) (w w' : World) : Prop :=
  ∃ lv', Mem B g gb lv' xs w' ∧ Touch g gb lv w w' ∧ ∀ k, lv'.ownBlock = some k → lv.ownBlock = some k ∨ w.heap.size ≤ k

theorem noted_mk {B g gb gl cap : Nat} {lv : Value} {xs : List UInt8} {ag : Int} {lg : List Acc} {old : Nat} {x : Acc} {w w1 w2 : World} (h : MemR B g gb lv xs ag lg old w) (hl : lg.length < 4096) (hb : Below w.heap.size w w1)
    (hown : w2.ownsRow B 121 4 (.slice (some ⟨gl, 0, none⟩) (lg.length + 1) cap) (lg.length + 1) (logCells lg ++ accCells x)) (hgrow : w1.grownBy w2 lv.ownBlock) (hat : lv.ownBlock = some gl ∨ gl = w1.heap.size) :
    Noted B g gb lv xs w (w2.setCell ⟨g, 2, none⟩ (.slice (some ⟨gl, 0, none⟩) (lg.length + 1) cap)) := by
  have hg := h.blk.lt
  have hgb := h.row.lt
  have hz := hb.size
  have o : ∀ k, k < w.heap.size → lv.ownBlock ≠ some k → w2.heap[k]? = w.heap[k]? := fun k hk hne => (hgrow.block k (by omega) (fun e => hne e.symm)).trans (hb.block k hk)
  have s : ∀ k, k ≠ g → (w2.setCell ⟨g, 2, none⟩ (.slice (some ⟨gl, 0, none⟩) (lg.length + 1) cap)).heap[k]? = w2.heap[k]? := fun k hk => Below.heap_setCell _ _ _ _ hk
  have hgl : gl ≠ g := by
    rintro rfl
    rcases hat with e | e
    · exact h.lne e
    · omega
  have hblk := (h.blk.same (o g hg h.lne)).put 2 (.slice (some ⟨gl, 0, none⟩) (lg.length + 1) cap)
  have hold : old = 0 := by rcases h.full with e | e; exact e; omega
  refine ⟨.slice (some ⟨gl, 0, none⟩) (lg.length + 1) cap, ⟨ag, lg ++ [x], old, h.hB, h.hBb, hblk, (h.row.same (o gb hgb h.lneb)).same (s gb h.ne.symm), ?_, h.len, h.pos, by simp; omega, .inl hold⟩, ?_, ?_⟩
  · refine own_same ?_ (fun k hk => s k (fun e => hgl ?_))
    · rw [logCells_append, List.length_append]
      simpa [logCells] using hown
    · subst e
      simpa [Value.ownBlock] using hk
  · refine ⟨hgrow.os.trans hb.os, hgrow.tape.trans hb.tape, hgrow.output.trans hb.output, ?_, fun k hk a _ c => (s k a).trans (o k hk c)⟩
    have := hgrow.size
    simp [World.setCell]
    omega
  · intro k hk
    have : gl = k := by simpa [Value.ownBlock] using hk
    subst this
    rcases hat with e | e
    · exact .inl e
    · right; omega

theorem rec_cells {B g gb : Nat} {lv : Value} {xs : List UInt8} {ag : Int} {lg : List Acc} {old : Nat} {w w1 w2 : World} (h : MemR B g gb lv xs ag lg old w) (hb : Below w.heap.size w w1) (hgrow : w1.grownBy w2 lv.ownBlock) :
    w2.cell? ⟨g, 2, none⟩ = some lv ∧ w2.frozen? ⟨g, 2, none⟩ = false := by
  have hg := h.blk.lt
  have hz := hb.size
  have o : w2.heap[g]? = w.heap[g]? := (hgrow.block g (by omega) (fun e => h.lne e.symm)).trans (hb.block g hg)
  exact ⟨(h.blk.same o).cell 2, (h.blk.same o).frozen 2⟩

theorem rec_ready {B g gb : Nat} {lv : Value} {xs : List UInt8} {ag : Int} {lg : List Acc} {old : Nat} {w : World} (h : MemR B g gb lv xs ag lg old w) (x : Acc) :
    (((w.alloc (.cells (accCells x).toArray 121)).alloc (.cells (accCells x).toArray 121)).drew).ownsRow B 121 4 lv lg.length (logCells lg) ∧
    (∀ j u, (accCells x)[j]? = some u → (((w.alloc (.cells (accCells x).toArray 121)).alloc (.cells (accCells x).toArray 121)).drew).cell? ((⟨w.heap.size + 1, 0, none⟩ : Addr).add j) = some u) ∧
    Below w.heap.size w (((w.alloc (.cells (accCells x).toArray 121)).alloc (.cells (accCells x).toArray 121)).drew) := by
  refine ⟨(h.log.alloc _).alloc _, ?_, (((Below.refl _ _).alloc (Nat.le_refl _) _).alloc (by simp) _).drew⟩
  exact World.news_of_block (B := w.heap.size + 1) (cs := (accCells x).toArray) (t := 121) (fr := (0, 0)) (heap_alloc2_new w _ _)

set_option maxRecDepth 100000 in
set_option maxHeartbeats 1000000 in
theorem record_some {B g gb : Nat} {lv : Value} {xs : List UInt8} {ag : Int} {lg : List Acc} {old : Nat} {w : World} (h : MemR B g gb lv xs ag lg old w) (a n : Int) (wr : Bool) (hn : n ≠ 0) (hl : lg.length < 4096) :
    Calls Tryz.prog 41 #[.pointer (some ⟨g, 0, none⟩), .int .i64 a, .int .i64 n, .bool wr] w fun e w' => e = .returned (.tuple #[]) ∧ Noted B g gb lv xs w w' := by
  obtain ⟨i0, hi, hz0, hz1, hz2⟩ := info_parts Tryz.info121
  have HI := Lib.hid hi
  have HZ0 := Lib.hid hz0
  have HZ1 := Lib.hid hz1
  have HZ2 := Lib.hid hz2
  clear hi hz0 hz1 hz2
  have hn0 : (n == 0) = false := by simpa using hn
  clear hn
  obtain ⟨A, cap, rfl⟩ := own_form h.log
  have hc1 := h.c1
  have hc2 := h.c2
  have hf := h.fz 2
  have hlt := h.blk.lt
  have hne := Nat.ne_of_lt hlt
  go_enter Tryz.func41, Tryz.ntmps41
  go_wp2
  have HM := Lib.hid h
  have HR := Lib.hid (rec_ready h ⟨ag, a, n, wr⟩)
  have hbase := h.base
  clear h
  go_region_law (refine step_append_lies (((w.alloc (.cells #[.int .i64 ag, .int .i64 a, .int .i64 n, .bool wr] 121)).alloc (.cells #[.int .i64 ag, .int .i64 a, .int .i64 n, .bool wr] 121)).drew) rfl (.tmp 29) (.tmp 31) 71 rfl B 121 i0 _ 4 32 Tryz.underlying71 HI.out HZ0.out HZ1.out HZ2.out rfl (by decide) (.slice A lg.length cap) lg.length (logCells lg) rfl HR.out.1 ⟨w.heap.size + 1, 0, none⟩ 1 1 (accCells ⟨ag, a, n, wr⟩) rfl rfl HR.out.2.1 (acc_one _) (by decide) (by unfold maxLen; omega) (by omega) (by simp; omega) (w.heap.size + 2) (by simp) ?_; intro gl cap' w2 hown hgrow hat hlt'; obtain ⟨hk2, hk3⟩ := rec_cells HM.out HR.out.2.2 hgrow; have HN := Lib.hid (noted_mk HM.out hl HR.out.2.2 hown hgrow (by simpa using hat)); clear hown hgrow hat hlt')
  all_goals
    go_wp2
    ((try simp only [Exit.inBlock, Exit.then]); refine bodyPost_ret (results_none rfl _ _ _) rfl ?_)
    exact ⟨rfl, HN.out⟩
theorem record_none {B g gb : Nat} {lv : Value} {xs : List UInt8} {w : World} (h : Mem B g gb lv xs w) (a : Int) (wr : Bool) :
    Calls Tryz.prog 41 #[.pointer (some ⟨g, 0, none⟩), .int .i64 a, .int .i64 0, .bool wr] w fun e w' => e = .returned (.tuple #[]) ∧ Noted B g gb lv xs w w' := by
  go_enter Tryz.func41, Tryz.ntmps41
  go_wp2
  ((try simp only [Exit.inBlock, Exit.then]); refine bodyPost_ret (results_none rfl _ _ _) rfl ?_)
  exact ⟨rfl, lv, h, Touch.refl, fun k hk => .inl hk⟩

/-! the log full: the oldest one gives way -/
theorem logCells_set (lg : List Acc) (k : Nat) (x : Acc) (hk : k < lg.length) :
    ((((logCells lg).set (k * 4) (.int .i64 x.ag)).set (k * 4 + 1) (.int .i64 x.at_)).set (k * 4 + 2) (.int .i64 x.n)).set (k * 4 + 3) (.bool x.wr) = logCells (lg.set k x) := by
  induction lg generalizing k with
  | nil => simp at hk
  | cons a l ih =>
    have e : ∀ l : List Acc, logCells (a :: l) = accCells a ++ logCells l := fun l => by simp [logCells]
    cases k with
    | zero => simp [logCells, accCells]
    | succ k =>
      have hk' : k < l.length := by simpa using hk
      rw [List.set_cons_succ, e, e, ← ih k hk']
      have z : (accCells a).length = 4 := rfl
      rw [List.set_append_right _ _ (by rw [z]; omega), List.set_append_right _ _ (by rw [z]; omega), List.set_append_right _ _ (by rw [z]; omega), List.set_append_right _ _ (by rw [z]; omega), z]
      congr 1
      rw [show (k + 1) * 4 - 4 = k * 4 by omega, show (k + 1) * 4 + 1 - 4 = k * 4 + 1 by omega, show (k + 1) * 4 + 2 - 4 = k * 4 + 2 by omega, show (k + 1) * 4 + 3 - 4 = k * 4 + 3 by omega]
end Go.Proofs.YtbpgblmhacpjlaaGreat
namespace Go.Proofs.YtbpgblmhacpjlaaGreat
open Go.RowKit

/-- the store of an access into the log's row -/
def put4 (w : World) (gl k : Nat) (x : Acc) : World :=
  (((w.setCell ⟨gl, k, none⟩ (.int .i64 x.ag)).setCell ⟨gl, k + 1, none⟩ (.int .i64 x.at_)).setCell ⟨gl, k + 2, none⟩ (.int .i64 x.n)).setCell ⟨gl, k + 3, none⟩ (.bool x.wr)
theorem put4_heap (w : World) (gl k : Nat) (x : Acc) (j : Nat) (hj : j ≠ gl) : (put4 w gl k x).heap[j]? = w.heap[j]? := by
  unfold put4
  rw [Below.heap_setCell _ _ _ _ hj, Below.heap_setCell _ _ _ _ hj, Below.heap_setCell _ _ _ _ hj, Below.heap_setCell _ _ _ _ hj]
theorem put4_row (w : World) (gl k : Nat) (x : Acc) (t : TypeId) (cs : Array Value) (h : Blk w gl t cs) :
    Blk (put4 w gl k x) gl t ((((cs.setIfInBounds k (.int .i64 x.ag)).setIfInBounds (k + 1) (.int .i64 x.at_)).setIfInBounds (k + 2) (.int .i64 x.n)).setIfInBounds (k + 3) (.bool x.wr)) :=
  (((h.put k _).put (k + 1) _).put (k + 2) _).put (k + 3) _
theorem put4_all (w : World) (gl k : Nat) (x : Acc) (o : Obj) : (((put4 w gl k x).alloc o).drew).os = w.os ∧ (((put4 w gl k x).alloc o).drew).tape = w.tape ∧ (((put4 w gl k x).alloc o).drew).output = w.output ∧ (((put4 w gl k x).alloc o).drew).heap.size = w.heap.size + 1 := by
  refine ⟨rfl, rfl, rfl, ?_⟩
  simp [World.setCell, put4]
theorem noted_full {B g gb gl cap : Nat} {xs : List UInt8} {ag : Int} {lg : List Acc} {old : Nat} {x : Acc} {w W : World} {o : Obj} (h : MemR B g gb (.slice (some ⟨gl, 0, none⟩) lg.length cap) xs ag lg old w) (hl : lg.length = 4096) (ho : old < 4096)
    (hW : ((put4 w gl (old * 4) x).alloc o).drew = W) : (W.cell? ⟨g, 3, none⟩ = some (.int .i64 (old : Int)) ∧ W.frozen? ⟨g, 3, none⟩ = false) ∧
    ∀ n : Nat, n < 4096 → Noted B g gb (.slice (some ⟨gl, 0, none⟩) lg.length cap) xs w (W.setCell ⟨g, 3, none⟩ (.int .i64 (n : Int))) := by
  have hg := h.blk.lt
  have hgb := h.row.lt
  have hgl : (Value.slice (some ⟨gl, 0, none⟩) lg.length cap).ownBlock = some gl := rfl
  have n1 : gl ≠ g := fun e => h.lne (by rw [hgl, e])
  have n2 : gl ≠ gb := fun e => h.lneb (by rw [hgl, e])
  have hlt := (h.lge hgl).2
  obtain ⟨p1, p2, p3, p4⟩ := put4_all w gl (old * 4) x o
  rw [hW] at p1 p2 p3 p4
  have hsz : (put4 w gl (old * 4) x).heap.size = w.heap.size := by simp [World.setCell, put4]
  have s0 : ∀ k, k < w.heap.size → W.heap[k]? = (put4 w gl (old * 4) x).heap[k]? := fun k hk => by
    rw [← hW]; exact Below.heap_alloc _ o k (by rw [hsz]; exact hk)
  have s1 : ∀ k, k < w.heap.size → k ≠ gl → W.heap[k]? = w.heap[k]? := fun k hk h2 => (s0 k hk).trans (put4_heap _ _ _ _ _ h2)
  have s : ∀ (n : Nat) k, k < w.heap.size → k ≠ g → k ≠ gl → (W.setCell ⟨g, 3, none⟩ (.int .i64 (n : Int))).heap[k]? = w.heap[k]? := fun n k hk h1 h2 => (Below.heap_setCell _ _ _ _ h1).trans (s1 k hk h2)
  have hgW := h.blk.same (s1 g hg (Ne.symm n1))
  refine ⟨⟨hgW.cell 3, hgW.frozen 3⟩, fun n hn => ⟨.slice (some ⟨gl, 0, none⟩) lg.length cap, ⟨ag, lg.set old x, n, h.hB, h.hBb, ?_, ?_, ?_, h.len, h.pos, by rw [List.length_set]; exact h.most, .inr ⟨by rw [List.length_set]; exact hl, hn⟩⟩, ?_, fun k hk => .inl hk⟩⟩
  · have := hgW.put 3 (.int .i64 (n : Int))
    simpa using this
  · exact h.row.same (s n gb hgb h.ne.symm (Ne.symm n2))
  · rw [List.length_set]
    refine ⟨by rw [logCells_length, List.length_set], .inr ?_⟩
    rcases h.log.2 with ⟨h', _⟩ | ⟨g', cap', cur, h', hB, hh, h3, h4, h5, h6⟩
    · simp at h'
    · simp only [Value.slice.injEq, Option.some.injEq, Addr.mk.injEq, and_true, true_and] at h'
      obtain ⟨rfl, rfl⟩ := h'
      have hh2 := put4_row w gl (old * 4) x 121 cur hh
      have hh3 : Blk (W.setCell ⟨g, 3, none⟩ (.int .i64 (n : Int))) gl 121 _ := (hh2.same (s0 gl hlt)).other n1 3 _
      refine ⟨gl, cap, _, rfl, hB, hh3, h3, h4, by simpa using h5, ?_⟩
      have hk : old * 4 + 3 < lg.length * 4 := by omega
      rw [← logCells_set lg old x (by omega), ← h6]
      simp only [Array.toList_setIfInBounds, List.take_set]
  · exact ⟨p1, p2, p3, (by rw [show (W.setCell ⟨g, 3, none⟩ (.int .i64 (n : Int))).heap.size = W.heap.size by simp [World.setCell], p4]; omega), fun k hk a _ c => s n k hk a (fun e => c (by rw [hgl, e]))⟩

set_option maxRecDepth 100000 in
set_option maxHeartbeats 1000000 in
theorem record_full {B g gb : Nat} {lv : Value} {xs : List UInt8} {ag : Int} {lg : List Acc} {old : Nat} {w : World} (h : MemR B g gb lv xs ag lg old w) (a n : Int) (wr : Bool) (hn : n ≠ 0) (hl : lg.length = 4096) (ho : old < 4096) :
    Calls Tryz.prog 41 #[.pointer (some ⟨g, 0, none⟩), .int .i64 a, .int .i64 n, .bool wr] w fun e w' => e = .returned (.tuple #[]) ∧ Noted B g gb lv xs w w' := by
  have hn0 : (n == 0) = false := by simpa using hn
  clear hn
  obtain ⟨gl, cap, rfl, hge, hltl⟩ := h.log.form (by omega)
  have hgl : (Value.slice (some ⟨gl, 0, none⟩) lg.length cap).ownBlock = some gl := rfl
  have n1 : gl ≠ g := fun e => h.lne (by rw [hgl, e])
  have HF := Lib.hid (fun W o => noted_full (x := ⟨ag, a, n, wr⟩) (W := W) (o := o) h hl ho)
  have hcell : ∀ j, j < lg.length * 4 → ∃ u, w.cell? ⟨gl, j, none⟩ = some u := by
    intro j hj
    have hc := h.log.cells (g := gl) rfl
    have hlen := logCells_length lg
    refine ⟨(logCells lg)[j]'(by omega), ?_⟩
    have := hc j _ (List.getElem?_eq_getElem (by omega))
    have e : (⟨gl, 0, none⟩ : Addr).add j = ⟨gl, j, none⟩ := by unfold Addr.add; split <;> simp_all
    rwa [e] at this
  have hfz : ∀ j, w.frozen? ⟨gl, j, none⟩ = false := by
    intro j
    rcases h.log.2 with ⟨h', _⟩ | ⟨g', cap', cur, h', hB, hh, h3, h4, h5, h6⟩
    · simp at h'
    · simp only [Value.slice.injEq, Option.some.injEq, Addr.mk.injEq, and_true, true_and] at h'
      obtain ⟨rfl, rfl⟩ := h'
      exact (show Blk w gl 121 cur from hh).frozen j
  obtain ⟨u0, q0⟩ := hcell (old * 4) (by omega)
  obtain ⟨u1, q1⟩ := hcell (old * 4 + 1) (by omega)
  obtain ⟨u2, q2⟩ := hcell (old * 4 + 2) (by omega)
  obtain ⟨u3, q3⟩ := hcell (old * 4 + 3) (by omega)
  have z0 := hfz (old * 4)
  have z1 := hfz (old * 4 + 1)
  have z2 := hfz (old * 4 + 2)
  have z3 := hfz (old * 4 + 3)
  have hc1 := h.c1
  have hc2 := h.c2
  have hc3 := h.c3
  have hf := h.fz 2
  have hf3 := h.fz 3
  have hlt := h.blk.lt
  have hne := Nat.ne_of_lt hlt
  have hnel := Nat.ne_of_lt hltl
  rw [hl] at hc2
  clear hcell hfz h hgl hge
  go_enter Tryz.func41, Tryz.ntmps41
  go_wp2
  go_region
  obtain ⟨W, hW⟩ : ∃ W, ((put4 w gl (old * 4) ⟨ag, a, n, wr⟩).alloc (.cells #[.int .i64 ag, .int .i64 a, .int .i64 n, .bool wr] 121)).drew = W := ⟨_, rfl⟩
  obtain ⟨⟨c3, f3⟩, HN⟩ := HF.out W _ hW
  have HN := Lib.hid HN
  simp only [put4] at hW
  rw [hW]
  clear hW
  clear q0 q1 q2 q3 z0 z1 z2 z3 hc1 hc2 hc3 hf hf3 HF
  go_wp2
  go_end0
  refine ⟨rfl, ?_⟩
  have e : ((old : Int) + 1) % 4096 = (((old + 1) % 4096 : Nat) : Int) := by omega
  (rw [e]; exact HN.out _ (by omega))
theorem record_m {B g gb : Nat} {lv : Value} {xs : List UInt8} {w : World} (h : Mem B g gb lv xs w) (a n : Int) (wr : Bool) :
    Calls Tryz.prog 41 #[.pointer (some ⟨g, 0, none⟩), .int .i64 a, .int .i64 n, .bool wr] w fun e w' => e = .returned (.tuple #[]) ∧ Noted B g gb lv xs w w' := by
  by_cases hn : n = 0
  · subst hn
    exact record_none h a wr
  · obtain ⟨ag, lg, old, h⟩ := h
    by_cases hl : lg.length < 4096
    · exact record_some h a n wr hn hl
    · have hm := h.most
      refine record_full h a n wr hn (by omega) ?_
      rcases h.full with e | e
      · omega
      · exact e.2
end Go.Proofs.YtbpgblmhacpjlaaGreat

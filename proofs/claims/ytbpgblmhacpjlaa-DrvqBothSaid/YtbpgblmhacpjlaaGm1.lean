/-
  A guest's memory as it lies in the program's memory, its log whatever it is; what keeps it; May, Image, New, isWord; no condition.
-/
import Derived.Test.YtbpgblmhacpjlaaDbk
import Derived.Test.YtbpgblmhacpjlaaPut
import Derived.Deep.AppendLies
import Derived.Deep.Draws
import Derived.Laws.CopyOwn
namespace Go.Proofs.Ytbpgblmhacpjlaa
open Go.RowKit

section
variable {w w' : World} {g : Nat} {t : TypeId} {cs : Array Value}
theorem Blk.drew (h : Blk w g t cs) : Blk w.drew g t cs := h
theorem Blk.ne {g' : Nat} {t' : TypeId} {cs' : Array Value} (h : Blk w g t cs) (h' : Blk w g' t' cs') (hne : t ≠ t') : g ≠ g' := by
  rintro rfl
  unfold Blk at h h'
  rw [h] at h'
  injection h' with h'
  injection h' with _ ht
  exact hne ht
theorem own_ne {base : Nat} {e : TypeId} {size n : Nat} {v : Value} {xs : List Value} (h : w.ownsRow base e size v n xs) (hg : Blk w g t cs) (hne : e ≠ t) : v.ownBlock ≠ some g := by
  rcases h.2 with ⟨rfl, _⟩ | ⟨g', cap, cur, rfl, _, hh, _⟩
  · simp [Value.ownBlock]
  · intro he
    have : g' = g := by simpa [Value.ownBlock] using he
    subst this
    exact Blk.ne (t := e) hh hg hne rfl
theorem own_same {base : Nat} {e : TypeId} {size n : Nat} {v : Value} {xs : List Value} (h : w.ownsRow base e size v n xs) (hb : ∀ k, v.ownBlock = some k → w'.heap[k]? = w.heap[k]?) : w'.ownsRow base e size v n xs := by
  refine ⟨h.1, ?_⟩
  rcases h.2 with hn | ⟨g, cap, cur, rfl, h1, hgg, rest⟩
  · exact .inl hn
  · exact .inr ⟨g, cap, cur, rfl, h1, (hb g rfl).trans hgg, rest⟩
end

/-- An access. -/
structure Acc where
  ag : Int
  at_ : Int
  n : Int
  wr : Bool
def accCells (a : Acc) : List Value := [.int .i64 a.ag, .int .i64 a.at_, .int .i64 a.n, .bool a.wr]
def logCells (l : List Acc) : List Value := l.flatMap accCells
theorem logCells_append (l m : List Acc) : logCells (l ++ m) = logCells l ++ logCells m := by simp [logCells]
theorem logCells_length (l : List Acc) : (logCells l).length = l.length * 4 := by
  induction l with
  | nil => rfl
  | cons a l ih => simp only [logCells, List.flatMap_cons, List.length_append, List.length_cons] at ih ⊢; rw [ih]; simp [accCells]; omega

/-- The memory behind a pointer: its block g, its bytes' block gb, its log's value lv, its log, the oldest access's place. -/
structure MemR (B g gb : Nat) (lv : Value) (xs : List UInt8) (ag : Int) (lg : List Acc) (old : Nat) (w : World) : Prop where
  hB : B ≤ g
  hBb : B ≤ gb
  blk : Blk w g 85 #[.slice (some ⟨gb, 0, none⟩) xs.length xs.length, .int .i64 ag, lv, .int .i64 (old : Int)]
  row : Blk w gb 5 (xs.map byteV).toArray
  log : w.ownsRow B 141 4 lv lg.length (logCells lg)
  len : xs.length ≤ 1048576
  pos : 0 < xs.length
  most : lg.length ≤ 4096
  full : old = 0 ∨ (lg.length = 4096 ∧ old < 4096)
/-- .. whatever its log. -/
def Mem (B g gb : Nat) (lv : Value) (xs : List UInt8) (w : World) : Prop := ∃ ag lg old, MemR B g gb lv xs ag lg old w

/-- Nothing but a memory's own blocks is another one. -/
structure Touch (g gb : Nat) (lv : Value) (w w' : World) : Prop where
  os : w'.os = w.os
  tape : w'.tape = w.tape
  output : w'.output = w.output
  size : w.heap.size ≤ w'.heap.size
  block : ∀ k, k < w.heap.size → k ≠ g → k ≠ gb → lv.ownBlock ≠ some k → w'.heap[k]? = w.heap[k]?

section
variable {B g gb : Nat} {lv : Value} {xs : List UInt8} {ag : Int} {lg : List Acc} {old : Nat} {w w' : World}
theorem MemR.ne (h : MemR B g gb lv xs ag lg old w) : g ≠ gb := h.blk.ne h.row (by decide)
theorem MemR.lne (h : MemR B g gb lv xs ag lg old w) : lv.ownBlock ≠ some g := own_ne h.log h.blk (by decide)
theorem MemR.lneb (h : MemR B g gb lv xs ag lg old w) : lv.ownBlock ≠ some gb := own_ne h.log h.row (by decide)
theorem MemR.lge (h : MemR B g gb lv xs ag lg old w) {k : Nat} (hk : lv.ownBlock = some k) : B ≤ k ∧ k < w.heap.size := h.log.lt k hk
theorem MemR.base (h : MemR B g gb lv xs ag lg old w) : B ≤ w.heap.size := by have := h.hB; have := h.blk.lt; omega
theorem MemR.c0 (h : MemR B g gb lv xs ag lg old w) : w.cell? ⟨g, 0, none⟩ = some (.slice (some ⟨gb, 0, none⟩) xs.length xs.length) := h.blk.cell 0
theorem MemR.c1 (h : MemR B g gb lv xs ag lg old w) : w.cell? ⟨g, 1, none⟩ = some (.int .i64 ag) := h.blk.cell 1
theorem MemR.c2 (h : MemR B g gb lv xs ag lg old w) : w.cell? ⟨g, 2, none⟩ = some lv := h.blk.cell 2
theorem MemR.c3 (h : MemR B g gb lv xs ag lg old w) : w.cell? ⟨g, 3, none⟩ = some (.int .i64 (old : Int)) := h.blk.cell 3
theorem MemR.fz (h : MemR B g gb lv xs ag lg old w) (i : Nat) : w.frozen? ⟨g, i, none⟩ = false := h.blk.frozen i
theorem MemR.byte (h : MemR B g gb lv xs ag lg old w) (j : Nat) (hj : j < xs.length) : w.cell? ⟨gb, j, none⟩ = some (byteV xs[j]) := by
  rw [h.row.cell j]; simp [hj]
theorem MemR.kept (h : MemR B g gb lv xs ag lg old w) (h1 : w'.heap[g]? = w.heap[g]?) (h2 : w'.heap[gb]? = w.heap[gb]?) (h3 : ∀ k, lv.ownBlock = some k → w'.heap[k]? = w.heap[k]?) : MemR B g gb lv xs ag lg old w' :=
  ⟨h.hB, h.hBb, h.blk.same h1, h.row.same h2, own_same h.log h3, h.len, h.pos, h.most, h.full⟩
theorem MemR.below {n : Nat} (h : MemR B g gb lv xs ag lg old w) (hb : Below n w w') (hn : w.heap.size ≤ n) : MemR B g gb lv xs ag lg old w' :=
  h.kept (hb.block g (by have := h.blk.lt; omega)) (hb.block gb (by have := h.row.lt; omega)) (fun k hk => hb.block k (by have := (h.lge hk).2; omega))
theorem Mem.kept (h : Mem B g gb lv xs w) (h1 : w'.heap[g]? = w.heap[g]?) (h2 : w'.heap[gb]? = w.heap[gb]?) (h3 : ∀ k, lv.ownBlock = some k → w'.heap[k]? = w.heap[k]?) : Mem B g gb lv xs w' := by
  obtain ⟨ag, lg, old, h⟩ := h; exact ⟨ag, lg, old, h.kept h1 h2 h3⟩
theorem Mem.below {n : Nat} (h : Mem B g gb lv xs w) (hb : Below n w w') (hn : w.heap.size ≤ n) : Mem B g gb lv xs w' := by
  obtain ⟨ag, lg, old, h⟩ := h; exact ⟨ag, lg, old, h.below hb hn⟩
theorem Mem.drew (h : Mem B g gb lv xs w) : Mem B g gb lv xs w.drew := h.kept rfl rfl fun _ _ => rfl
theorem Mem.len (h : Mem B g gb lv xs w) : xs.length ≤ 1048576 := by obtain ⟨ag, lg, old, h⟩ := h; exact h.len
theorem Mem.base (h : Mem B g gb lv xs w) : B ≤ w.heap.size := by obtain ⟨ag, lg, old, h⟩ := h; exact h.base
theorem Mem.lt (h : Mem B g gb lv xs w) : g < w.heap.size ∧ gb < w.heap.size ∧ ∀ k, lv.ownBlock = some k → k < w.heap.size := by
  obtain ⟨ag, lg, old, h⟩ := h; exact ⟨h.blk.lt, h.row.lt, fun k hk => (h.lge hk).2⟩
theorem Mem.ge (h : Mem B g gb lv xs w) : B ≤ g ∧ B ≤ gb ∧ ∀ k, lv.ownBlock = some k → B ≤ k := by
  obtain ⟨ag, lg, old, h⟩ := h; exact ⟨h.hB, h.hBb, fun k hk => (h.lge hk).1⟩
/-- A block of another element type is none of a memory's. -/
theorem Mem.far (h : Mem B g gb lv xs w) {k : Nat} {t : TypeId} {cs : Array Value} {fr : Nat × Nat} (hk : w.heap[k]? = some (.cells cs t fr)) (h1 : t ≠ 85) (h2 : t ≠ 5) (h3 : t ≠ 141) : k ≠ g ∧ k ≠ gb ∧ lv.ownBlock ≠ some k := by
  obtain ⟨ag, lg, old, h⟩ := h
  have a1 := h.blk
  have a2 := h.row
  unfold Blk at a1 a2
  refine ⟨?_, ?_, ?_⟩
  · rintro rfl; rw [a1] at hk; injection hk with hk; injection hk with _ e; exact h1 e.symm
  · rintro rfl; rw [a2] at hk; injection hk with hk; injection hk with _ e; exact h2 e.symm
  · intro e
    rcases h.log.2 with ⟨rfl, _⟩ | ⟨g', cap, cur, rfl, _, hh, _⟩
    · simp [Value.ownBlock] at e
    · have : g' = k := by simpa [Value.ownBlock] using e
      subst this
      rw [hh] at hk; injection hk with hk; injection hk with _ e; exact h3 e.symm
theorem Touch.refl : Touch g gb lv w w := ⟨rfl, rfl, rfl, Nat.le_refl _, fun _ _ _ _ _ => rfl⟩
theorem Touch.of_below (hb : Below w.heap.size w w') : Touch g gb lv w w' := ⟨hb.os, hb.tape, hb.output, hb.size, fun k hk _ _ _ => hb.block k hk⟩
theorem Touch.under (h : Mem B g gb lv xs w) (ht : Touch g gb lv w w') : Below B w w' :=
  ⟨ht.os, ht.tape, ht.output, ht.size, fun k hk => ht.block k (by have := h.base; omega) (by have := h.ge.1; omega) (by have := h.ge.2.1; omega) (fun e => by have := h.ge.2.2 k e; omega)⟩
/-- Two steps, of which the first may have laid a new log. -/
theorem Touch.trans {lv1 : Value} {w1 : World} (h1 : Touch g gb lv w w1) (h2 : Touch g gb lv1 w1 w') (hl : ∀ k, lv1.ownBlock = some k → lv.ownBlock = some k ∨ w.heap.size ≤ k) : Touch g gb lv w w' :=
  ⟨h2.os.trans h1.os, h2.tape.trans h1.tape, h2.output.trans h1.output, Nat.le_trans h1.size h2.size, fun k hk a b c =>
    (h2.block k (by have := h1.size; omega) a b (fun e => by rcases hl k e with e | e; exact c e; omega)).trans (h1.block k hk a b c)⟩

theorem may_yes (h : Mem B g gb lv xs w) (a n : Int) (h0 : 0 ≤ n) (h1 : 0 ≤ a) (h2 : a + n ≤ xs.length) :
    Calls Try.prog 50 #[.pointer (some ⟨g, 0, none⟩), .int .i64 a, .int .i64 n] w fun e w' => e = .returned (.bool true) ∧ w = w' := by
  obtain ⟨ag, lg, old, h⟩ := h
  have hc := h.c0
  have hl := h.len
  clear h
  go_enter Try.func50, Try.ntmps50
  go_wp2
  go_ret
  exact ⟨ret_bool (decide_eq_true (by omega)), rfl⟩
theorem may_no (h : Mem B g gb lv xs w) (a n : Int) (hn : n < 9223372036854775808) (hno : ¬ (0 ≤ n ∧ 0 ≤ a ∧ a + n ≤ xs.length)) :
    Calls Try.prog 50 #[.pointer (some ⟨g, 0, none⟩), .int .i64 a, .int .i64 n] w fun e w' => e = .returned (.bool false) ∧ w = w' := by
  obtain ⟨ag, lg, old, h⟩ := h
  have hc := h.c0
  have hl := h.len
  clear h
  by_cases h0 : 0 ≤ n
  · by_cases h1 : 0 ≤ a
    · have h2 : (xs.length : Int) - n < a := by omega
      clear hno
      go_enter Try.func50, Try.ntmps50
      go_wp2
      go_ret
      exact ⟨ret_bool (decide_eq_false (by omega)), rfl⟩
    · clear hno
      go_enter Try.func50, Try.ntmps50
      go_wp2
      go_ret
      exact ⟨rfl, rfl⟩
  · clear hno
    go_enter Try.func50, Try.ntmps50
    go_wp2
    go_ret
    exact ⟨rfl, rfl⟩
/-- do n bytes lie at a? -/
def mayB (xs : List UInt8) (a n : Int) : Bool := decide (0 ≤ n ∧ 0 ≤ a ∧ a + n ≤ xs.length)
theorem may_any (h : Mem B g gb lv xs w) (a n : Int) (hn : n < 9223372036854775808) :
    Calls Try.prog 50 #[.pointer (some ⟨g, 0, none⟩), .int .i64 a, .int .i64 n] w fun e w' => e = .returned (.bool (mayB xs a n)) ∧ w = w' := by
  by_cases k : 0 ≤ n ∧ 0 ≤ a ∧ a + n ≤ xs.length
  · rw [show mayB xs a n = true from decide_eq_true k]; exact may_yes h a n k.1 k.2.1 k.2.2
  · rw [show mayB xs a n = false from decide_eq_false k]; exact may_no h a n hn k
theorem MemR.text (h : MemR B g gb lv xs ag lg old w) (a n : Nat) (hn : a + n ≤ xs.length) (cap : Nat) :
    (convert 82 9 (.slice (some ⟨gb, a, none⟩) n cap)).run Try.prog w = .ok (.string ⟨((xs.drop a).take n).toArray⟩) w := by
  have e : n = ((xs.drop a).take n).length := by simp; omega
  conv => lhs; rw [e]
  refine run_convert_bytes_back w 82 9 5 ⟨gb, a, none⟩ cap _ Try.underlying82 Try.underlying5 Try.underlying9 ?_
  intro j hj
  have e : (⟨gb, a, none⟩ : Addr).add j = ⟨gb, a + j, none⟩ := by unfold Addr.add; split <;> simp [*]
  have hj' : a + j < xs.length := by simp at hj; omega
  rw [e, h.byte (a + j) hj']
  simp [byteV]
theorem image_m (h : Mem B g gb lv xs w) :
    Calls Try.prog 23 #[.pointer (some ⟨g, 0, none⟩)] w fun e w' => e = .returned (.string ⟨xs.toArray⟩) ∧ w = w' := by
  obtain ⟨ag, lg, old, h⟩ := h
  have hc := h.c0
  have ht := h.text 0 xs.length (by omega) xs.length
  rw [List.drop_zero, List.take_length] at ht
  clear h
  go_enter Try.func23, Try.ntmps23
  go_wp2
  go_ret
  exact ⟨rfl, rfl⟩
end
theorem zeros_map (n : Nat) : ((List.replicate n (0 : UInt8)).map byteV) = (madeCells (Value.cells (.int .u8 0)) (n * 1)).toList := by
  rw [Nat.mul_one, List.map_replicate]; exact (toList_madeCells_one _ n).symm
/-- a row without spare, known whole -/
theorem blk_of_own {w : World} {B g n e size : Nat} {xs : List Value} (h : w.ownsRow B e size (.slice (some ⟨g, 0, none⟩) n n) n xs) : Blk w g e xs.toArray := by
  obtain ⟨hl, h2⟩ := h
  rcases h2 with ⟨h', _⟩ | ⟨g', cap', cur, h', hB, hh, h3, h4, h5, h6⟩
  · simp at h'
  · simp only [Value.slice.injEq, Option.some.injEq, Addr.mk.injEq, and_true, true_and] at h'
    obtain ⟨rfl, rfl⟩ := h'
    have e : cur = xs.toArray := by
      rw [List.take_of_length_le (by rw [Array.length_toList, h5]; exact Nat.le_refl _)] at h6
      rw [← h6]
    subst e
    exact hh
def MadeMem (n : Nat) (w : World) (e : Ending) (w' : World) : Prop :=
  ∃ g gb lv, e = .returned (.tuple #[.pointer (some ⟨g, 0, none⟩), .int .i64 0]) ∧ Mem w.heap.size g gb lv (List.replicate n 0) w' ∧ Below w.heap.size w w'
set_option maxRecDepth 100000 in
set_option maxHeartbeats 400000 in
theorem new_ok (n : Nat) (w : World) (h1 : 64 ≤ n) (h2 : n ≤ 1048576) :
    Calls Try.prog 7 #[.int .i64 n] w (MadeMem n w) := by
  obtain ⟨i0, hi, hz0, hz1, hz2⟩ := info_parts Try.info5
  have HI := Lib.hid hi
  have HZ0 := Lib.hid hz0
  have HZ1 := Lib.hid hz1
  have HZ2 := Lib.hid hz2
  clear hi hz0 hz1 hz2
  go_enter Try.func7, Try.ntmps7
  go_wp2_with (at_make; refine wpList_make_full _ rfl _ _ 82 rfl w.heap.size 5 i0 (.int .u8 0) 1 Try.underlying82 HI.out HZ0.out HZ1.out .i64 .i64 n n n rfl rfl rfl rfl (by rw [HZ2.out]; omega) (by unfold maxLen; omega) (Nat.le_refl _) ?_; intro w1 hrow hgrow)
  go_ret2
  rw [← zeros_map] at hrow
  have hblk := blk_of_own hrow
  have hb : Below w.heap.size w w1 := (Below.refl _ _).grown hgrow (Nat.le_refl _) (by simp)
  have hz := hb.size
  refine ⟨w1.heap.size, w.heap.size, .slice none 0 0, rfl, ⟨0, [], 0, hz, Nat.le_refl _, ?_, hblk.alloc _, World.ownsRow_nil _ _ _ _, by simpa using h2, by simp; omega, by simp, .inl rfl⟩, hb.alloc hz _⟩
  rw [List.length_replicate]
  exact Blk.new _ _ _
end Go.Proofs.Ytbpgblmhacpjlaa

/-
  What gmem's record leaves: for every memory and every access.
-/
import Derived.Test.YtbpgblmhacpjlaaGm1
import Derived.Deep.RegionLaw
import Derived.BigRegion
import Derived.Deep.RegionHeld3
namespace Go.Proofs.Ytbpgblmhacpjlaa
open Go.RowKit

theorem Try.info141 : (Try.prog.info? 141).map (fun i => (i.zero, i.size, i.bytes)) = some (some (.agg #[.int .i64 0, .int .i64 0, .int .i64 0, .bool false]), 4, 32) := by kernel_rfl
theorem own_form {w : World} {B e size n : Nat} {v : Value} {xs : List Value} (h : w.ownsRow B e size v n xs) : ∃ A cap, v = .slice A n cap := by
  rcases h.2 with ⟨rfl, rfl⟩ | ⟨g, cap, cur, rfl, _⟩
  · exact ⟨none, 0, rfl⟩
  · exact ⟨_, _, rfl⟩
theorem acc_one (a : Acc) : ∀ u ∈ accCells a, u.oneCell' = true := by
  intro u hu
  simp only [accCells, List.mem_cons, List.not_mem_nil, or_false] at hu
  rcases hu with rfl | rfl | rfl | rfl <;> rfl

/-- What an access leaves. -/
def Noted (B g gb : Nat) (lv : Value) (xs : List UInt8) (w w' : World) : Prop :=
  ∃ lv', Mem B g gb lv' xs w' ∧ Touch g gb lv w w' ∧ ∀ k, lv'.ownBlock = some k → lv.ownBlock = some k ∨ w.heap.size ≤ k

theorem noted_mk {B g gb gl cap : Nat} {lv : Value} {xs : List UInt8} {ag : Int} {lg : List Acc} {old : Nat} {x : Acc} {w w1 w2 : World} (h : MemR B g gb lv xs ag lg old w) (hl : lg.length < 4096) (hb : Below w.heap.size w w1)
    (hown : w2.ownsRow B 141 4 (.slice (some ⟨gl, 0, none⟩) (lg.length + 1) cap) (lg.length + 1) (logCells lg ++ accCells x)) (hgrow : w1.grownBy w2 lv.ownBlock) (hat : lv.ownBlock = some gl ∨ gl = w1.heap.size) :
    Noted B g gb lv xs w (w2.setCell ⟨g, 2, none⟩ (.slice (some ⟨gl, 0, none⟩) (lg.length + 1) cap)) := by
  have hg := h.blk.lt
  have hgb := h.row.lt
  have hz := hb.size
  have o : ∀ k, k < w.heap.size → lv.ownBlock ≠ some k → w2.heap[k]? = w.heap[k]? := fun k hk hne => (hgrow.block k (by omega) (fun e => hne e.symm)).trans (hb.block k hk)
  have s : ∀ k, k ≠ g → (w2.setCell ⟨g, 2, none⟩ (.slice (some ⟨gl, 0, none⟩) (lg.length + 1) cap)).heap[k]? = w2.heap[k]? := fun k hk => Below.heap_setCell _ _ _ _ hk
  have hgl : gl ≠ g := by
    rintro rfl
    rcases hat with e | e
    · exact h.lne e
    · omega
  have hblk := (h.blk.same (o g hg h.lne)).put 2 (.slice (some ⟨gl, 0, none⟩) (lg.length + 1) cap)
  have hold : old = 0 := by rcases h.full with e | e; exact e; omega
  refine ⟨.slice (some ⟨gl, 0, none⟩) (lg.length + 1) cap, ⟨ag, lg ++ [x], old, h.hB, h.hBb, hblk, (h.row.same (o gb hgb h.lneb)).same (s gb h.ne.symm), ?_, h.len, h.pos, by simp; omega, .inl hold⟩, ?_, ?_⟩
  · refine own_same ?_ (fun k hk => s k (fun e => hgl ?_))
    · rw [logCells_append, List.length_append]
      simpa [logCells] using hown
    · subst e
      simpa [Value.ownBlock] using hk
  · refine ⟨hgrow.os.trans hb.os, hgrow.tape.trans hb.tape, hgrow.output.trans hb.output, ?_, fun k hk a _ c => (s k a).trans (o k hk c)⟩
    have := hgrow.size
    simp [World.setCell]
    omega
  · intro k hk
    have : gl = k := by simpa [Value.ownBlock] using hk
    subst this
    rcases hat with e | e
    · exact .inl e
    · right; omega

theorem rec_cells {B g gb : Nat} {lv : Value} {xs : List UInt8} {ag : Int} {lg : List Acc} {old : Nat} {w w1 w2 : World} (h : MemR B g gb lv xs ag lg old w) (hb : Below w.heap.size w w1) (hgrow : w1.grownBy w2 lv.ownBlock) :
    w2.cell? ⟨g, 2, none⟩ = some lv ∧ w2.frozen? ⟨g, 2, none⟩ = false := by
  have hg := h.blk.lt
  have hz := hb.size
  have o : w2.heap[g]? = w.heap[g]? := (hgrow.block g (by omega) (fun e => h.lne e.symm)).trans (hb.block g hg)
  exact ⟨(h.blk.same o).cell 2, (h.blk.same o).frozen 2⟩

theorem rec_ready {B g gb : Nat} {lv : Value} {xs : List UInt8} {ag : Int} {lg : List Acc} {old : Nat} {w : World} (h : MemR B g gb lv xs ag lg old w) (x : Acc) :
    (((w.alloc (.cells (accCells x).toArray 141)).alloc (.cells (accCells x).toArray 141)).drew).ownsRow B 141 4 lv lg.length (logCells lg) ∧
    (∀ j u, (accCells x)[j]? = some u → (((w.alloc (.cells (accCells x).toArray 141)).alloc (.cells (accCells x).toArray 141)).drew).cell? ((⟨w.heap.size + 1, 0, none⟩ : Addr).add j) = some u) ∧
    Below w.heap.size w (((w.alloc (.cells (accCells x).toArray 141)).alloc (.cells (accCells x).toArray 141)).drew) := by
  refine ⟨(h.log.alloc _).alloc _, ?_, (((Below.refl _ _).alloc (Nat.le_refl _) _).alloc (by simp) _).drew⟩
  exact World.news_of_block (B := w.heap.size + 1) (cs := (accCells x).toArray) (t := 141) (fr := (0, 0)) (heap_alloc2_new w _ _)

set_option maxRecDepth 100000 in
set_option maxHeartbeats 1000000 in
theorem record_some {B g gb : Nat} {lv : Value} {xs : List UInt8} {ag : Int} {lg : List Acc} {old : Nat} {w : World} (h : MemR B g gb lv xs ag lg old w) (a n : Int) (wr : Bool) (hn : n ≠ 0) (hl : lg.length < 4096) :
    Calls Try.prog 51 #[.pointer (some ⟨g, 0, none⟩), .int .i64 a, .int .i64 n, .bool wr] w fun e w' => e = .returned (.tuple #[]) ∧ Noted B g gb lv xs w w' := by
  obtain ⟨i0, hi, hz0, hz1, hz2⟩ := info_parts Try.info141
  have HI := Lib.hid hi
  have HZ0 := Lib.hid hz0
  have HZ1 := Lib.hid hz1
  have HZ2 := Lib.hid hz2
  clear hi hz0 hz1 hz2
  have hn0 : (n == 0) = false := by simpa using hn
  clear hn
  obtain ⟨A, cap, rfl⟩ := own_form h.log
  have hc1 := h.c1
  have hc2 := h.c2
  have hf := h.fz 2
  have hlt := h.blk.lt
  have hne := Nat.ne_of_lt hlt
  go_enter Try.func51, Try.ntmps51
  go_wp2
  have HM := Lib.hid h
  have HR := Lib.hid (rec_ready h ⟨ag, a, n, wr⟩)
  have hbase := h.base
  clear h
  go_region_law (refine step_append_lies (((w.alloc (.cells #[.int .i64 ag, .int .i64 a, .int .i64 n, .bool wr] 141)).alloc (.cells #[.int .i64 ag, .int .i64 a, .int .i64 n, .bool wr] 141)).drew) rfl (.tmp 29) (.tmp 31) 83 rfl B 141 i0 _ 4 32 Try.underlying83 HI.out HZ0.out HZ1.out HZ2.out rfl (by decide) (.slice A lg.length cap) lg.length (logCells lg) rfl HR.out.1 ⟨w.heap.size + 1, 0, none⟩ 1 1 (accCells ⟨ag, a, n, wr⟩) rfl rfl HR.out.2.1 (acc_one _) (by decide) (by unfold maxLen; omega) (by omega) (by simp; omega) (w.heap.size + 2) (by simp) ?_; intro gl cap' w2 hown hgrow hat hlt'; obtain ⟨hk2, hk3⟩ := rec_cells HM.out HR.out.2.2 hgrow; have HN := Lib.hid (noted_mk HM.out hl HR.out.2.2 hown hgrow (by simpa using hat)); clear hown hgrow hat hlt')
  all_goals
    go_wp2
    ((try simp only [Exit.inBlock, Exit.then]); refine bodyPost_ret (results_none rfl _ _ _) rfl ?_)
    exact ⟨rfl, HN.out⟩
theorem record_none {B g gb : Nat} {lv : Value} {xs : List UInt8} {w : World} (h : Mem B g gb lv xs w) (a : Int) (wr : Bool) :
    Calls Try.prog 51 #[.pointer (some ⟨g, 0, none⟩), .int .i64 a, .int .i64 0, .bool wr] w fun e w' => e = .returned (.tuple #[]) ∧ Noted B g gb lv xs w w' := by
  go_enter Try.func51, Try.ntmps51
  go_wp2
  ((try simp only [Exit.inBlock, Exit.then]); refine bodyPost_ret (results_none rfl _ _ _) rfl ?_)
  exact ⟨rfl, lv, h, Touch.refl, fun k hk => .inl hk⟩

/-! the log full: the oldest one gives way -/
theorem logCells_set (lg : List Acc) (k : Nat) (x : Acc) (hk : k < lg.length) :
    ((((logCells lg).set (k * 4) (.int .i64 x.ag)).set (k * 4 + 1) (.int .i64 x.at_)).set (k * 4 + 2) (.int .i64 x.n)).set (k * 4 + 3) (.bool x.wr) = logCells (lg.set k x) := by
  induction lg generalizing k with
  | nil => simp at hk
  | cons a l ih =>
    have e : ∀ l : List Acc, logCells (a :: l) = accCells a ++ logCells l := fun l => by simp [logCells]
    cases k with
    | zero => simp [logCells, accCells]
    | succ k =>
      have hk' : k < l.length := by simpa using hk
      rw [List.set_cons_succ, e, e, ← ih k hk']
      have z : (accCells a).length = 4 := rfl
      rw [List.set_append_right _ _ (by rw [z]; omega), List.set_append_right _ _ (by rw [z]; omega), List.set_append_right _ _ (by rw [z]; omega), List.set_append_right _ _ (by rw [z]; omega), z]
      congr 1
      rw [show (k + 1) * 4 - 4 = k * 4 by omega, show (k + 1) * 4 + 1 - 4 = k * 4 + 1 by omega, show (k + 1) * 4 + 2 - 4 = k * 4 + 2 by omega, show (k + 1) * 4 + 3 - 4 = k * 4 + 3 by omega]
end Go.Proofs.Ytbpgblmhacpjlaa

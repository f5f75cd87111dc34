/-
  What gmem's Clone answers, and what it leaves: for every memory.
-/
import Derived.Test.YtbpgblmhacpjlaaGm4
namespace Go.Proofs.Ytbpgblmhacpjlaa
open Go.RowKit

/-- what Clone leaves -/
def Cloned (xs : List UInt8) (w : World) (e : Ending) (w' : World) : Prop :=
  ∃ g gb lv, e = .returned (.pointer (some ⟨g, 0, none⟩)) ∧ Mem w.heap.size g gb lv xs w' ∧ Below w.heap.size w w'

section
variable {B g gb : Nat} {lv : Value} {xs : List UInt8} {ag : Int} {lg : List Acc} {old : Nat} {w : World}
theorem own_base {w : World} {B B' e size n : Nat} {v : Value} {ys : List Value} (h : w.ownsRow B e size v n ys) (hB : B' ≤ B) : w.ownsRow B' e size v n ys := by
  refine ⟨h.1, ?_⟩
  rcases h.2 with hn | ⟨g, cap, cur, rfl, h1, rest⟩
  · exact .inl hn
  · exact .inr ⟨g, cap, cur, rfl, Nat.le_trans hB h1, rest⟩
theorem clone_next {W W' : World} {c0 c1 : Value} (h : W.cell? ⟨g, 0, none⟩ = some c0 ∧ W.cell? ⟨g, 1, none⟩ = some c1 ∧ MemR B g gb lv xs ag lg old W) (hb : Below W.heap.size W W') :
    W'.cell? ⟨g, 0, none⟩ = some c0 ∧ W'.cell? ⟨g, 1, none⟩ = some c1 ∧ MemR B g gb lv xs ag lg old W' :=
  ⟨(hb.cell (p := ⟨g, 0, none⟩) h.2.2.blk.lt).trans h.1, (hb.cell (p := ⟨g, 1, none⟩) h.2.2.blk.lt).trans h.2.1, h.2.2.below hb (Nat.le_refl _)⟩
theorem bytes_made (n : Nat) (hn : n ≤ 1048576) : ∀ W : World, (Instr.makeSlice 82 (.int .i64 n) (.int .i64 n)).run Try.prog W = .ok (.slice (some ⟨W.heap.size, 0, none⟩) n n) (W.alloc (.cells (List.replicate n (Value.int .u8 0)).toArray 5)) := by
  obtain ⟨i0, hi, hz0, hz1, hz2⟩ := info_parts Try.info5
  have hm := fun W : World => run_make W 82 5 i0 (.int .u8 0) Try.underlying82 hi hz0 .i64 .i64 (n : Int) (n : Int) (by omega) (by omega) (by rw [hz2]; omega) (by omega)
  rw [hz1, Nat.mul_one] at hm
  have ez : madeCells (Value.cells (.int .u8 0)) ((n : Int).toNat) = (List.replicate n (Value.int .u8 0)).toArray := by
    apply Array.ext'
    rw [Int.toNat_natCast]
    exact toList_madeCells_one (.int .u8 0) n
  rw [ez] at hm
  intro W
  have := hm W
  simpa using this
/-- the clone's bytes, copied -/
theorem clone_copy {W : World} {gc gk : Nat} {v : Value} {lg' : List Acc} (hM : MemR B g gb lv xs ag lg old W) (hl : lg'.length = lg.length) (hb : Below w.heap.size w W) (h1 : w.heap.size ≤ gc) (h2 : w.heap.size ≤ gk)
    (hblk : Blk W gc 85 #[.slice (some ⟨gk, 0, none⟩) xs.length xs.length, .int .i64 ag, v, .int .i64 0]) (hrow : Blk W gk 5 (List.replicate xs.length (Value.int .u8 0)).toArray)
    (hown : W.ownsRow w.heap.size 141 4 v lg'.length (logCells lg')) :
    ∃ w2, (Builtin.copy_ #[82, 82] 3 #[.slice (some ⟨gk, 0, none⟩) xs.length xs.length, .slice (some ⟨gb, 0, none⟩) xs.length xs.length]).run Try.prog W.drew = .ok (.int .i64 xs.length) w2 ∧
      Hid (Cloned xs w (.returned (.pointer (some ⟨gc, 0, none⟩))) w2) ∧ W.cell? ⟨gc, 0, none⟩ = some (.slice (some ⟨gk, 0, none⟩) xs.length xs.length) ∧ W.cell? ⟨g, 0, none⟩ = some (.slice (some ⟨gb, 0, none⟩) xs.length xs.length) := by
  have hmin : Nat.min xs.length xs.length = xs.length := Nat.min_self _
  have hlen : (xs.map byteV).length = xs.length := by simp
  have hrun := run_copy_row (P := Try.prog) W.drew 82 82 3 5 gk 0 xs.length xs.length ⟨gb, 0, none⟩ xs.length xs.length _ 5 (xs.map byteV) Try.underlying82 Try.size5 hrow (by rw [hmin]; exact hlen)
    (fun j u hu => by
      have hj : j < xs.length := by
        have := (List.getElem?_eq_some_iff.1 hu).1
        simpa using this
      rw [addr_zero]
      have := hM.byte j hj
      simp [hj] at hu
      rw [← hu]
      exact this)
    (by simp) (by
      intro u hu
      obtain ⟨c, _, rfl⟩ := List.mem_map.1 hu
      rfl)
  rw [hlen] at hrun
  have e : ((List.replicate xs.length (Value.int .u8 0)).toArray.toList.take 0 ++ xs.map byteV ++ (List.replicate xs.length (Value.int .u8 0)).toArray.toList.drop (0 + xs.length)) = xs.map byteV := by
    rw [List.drop_eq_nil_of_le (by simp)]
    simp
  rw [e] at hrun
  have o : ∀ k, k ≠ gk → (W.drew.setRow gk (xs.map byteV).toArray).heap[k]? = W.heap[k]? := fun k hk => setRow_other W.drew gk k _ hk
  have hm := hM.most
  refine ⟨_, hrun, ⟨gc, gk, v, rfl, ⟨ag, lg', 0, h1, h2, hblk.same (o gc (hblk.ne hrow (by decide))), setRow_heap W.drew gk _ _ 5 _ hrow, own_same hown (fun k hk => o k (fun e => own_ne hown hrow (by decide) (e ▸ hk))), hM.len, hM.pos, by omega, .inl rfl⟩, below_setRow hb.drew h2 _⟩, hblk.cell 0, hM.c0⟩
set_option maxRecDepth 100000 in
set_option maxHeartbeats 2000000 in
theorem clone_m (h : Mem B g gb lv xs w) : Calls Try.prog 29 #[.pointer (some ⟨g, 0, none⟩)] w (Cloned xs w) := by
  have hm := bytes_made xs.length h.len
  obtain ⟨ag, lg, old, h⟩ := h
  obtain ⟨Zc, eZ⟩ : ∃ Zc, (List.replicate xs.length (Value.int .u8 0)).toArray = Zc := ⟨_, rfl⟩
  rw [eZ] at hm
  have HZ := Lib.hid eZ
  clear eZ
  have hS : w.cell? ⟨g, 0, none⟩ = some (.slice (some ⟨gb, 0, none⟩) xs.length xs.length) ∧ w.cell? ⟨g, 1, none⟩ = some (.int .i64 ag) ∧ MemR B g gb lv xs ag lg old w := ⟨h.c0, h.c1, h⟩
  have HS := Lib.hid hS
  clear h hS
  go_enter Try.func29, Try.ntmps29
  go_wp2
  go_region_held (fun w' => w'.cell? ⟨g, 0, none⟩ = some (.slice (some ⟨gb, 0, none⟩) xs.length xs.length) ∧ w'.cell? ⟨g, 1, none⟩ = some (.int .i64 ag) ∧ MemR B g gb lv xs ag lg old w')
    (first | assumption | exact clone_next HS.out (Below.refl _ _).drew | exact clone_next (by assumption) hb | exact clone_next (by assumption) (ba (Below.refl _ _) _))
    (first
      | (go_at_call 54; refine (kept_m (And.right (And.right (by assumption)))).mono ?_; rintro e w1 ⟨v, lg', rfl, hlg, ho, hb⟩; have HLG := Lib.hid hlg; clear hlg; obtain ⟨A, cap, rfl⟩ := own_form ho))
  · rename_i hH
    have hbw : Below w.heap.size w w1 := b0 (ba (Below.refl _ _) _).drew hb
    have hz : w.heap.size + 1 ≤ w1.heap.size := by have := hb.size; simpa using this
    have hrow : Blk w1 w.heap.size 5 (List.replicate xs.length (Value.int .u8 0)).toArray := by
      rw [HZ.out]
      exact (Blk.new w 5 Zc).same (hb.block w.heap.size (by simp))
    have hown : w1.ownsRow w.heap.size 141 4 (.slice A lg'.length cap) lg'.length (logCells lg') := own_base ho (by simp)
    obtain ⟨w2, hcp, HC, k0, k1⟩ := clone_copy hH.2.2 HLG.out (ba hbw _) (by omega) (Nat.le_refl _) (Blk.new w1 85 _) (hrow.alloc _) (hown.alloc _)
    clear hm hH hbw hz hrow hown ho hb
    generalize (w1.alloc (Obj.cells #[Value.slice (some ⟨w.heap.size, 0, none⟩) xs.length xs.length, Value.int IntKind.i64 ag, Value.slice A lg'.length cap, Value.int IntKind.i64 0] 85)) = W at *
    go_wp2
    go_region
    go_wp2
    go_ret
    exact HC.out
  · rename_i hH
    have hbw : Below w.heap.size w w1 := b0 (Below.refl _ _).drew hb
    have hz := hbw.size
    have hrow : Blk (w1.alloc (.cells Zc 5)) w1.heap.size 5 (List.replicate xs.length (Value.int .u8 0)).toArray := by
      rw [HZ.out]
      exact Blk.new w1 5 Zc
    obtain ⟨w2, hcp, HC, k0, k1⟩ := clone_copy hH.2.2 HLG.out (ba (ba hbw _) _) (by simp; omega) (by omega) (Blk.new _ 85 _) (hrow.alloc _) ((ho.alloc _).alloc _)
    have eg : (w1.alloc (.cells Zc 5)).heap.size = w1.heap.size + 1 := by simp
    rw [eg] at HC k0
    clear hm hH hbw hz hrow ho hb eg
    generalize ((w1.alloc (Obj.cells Zc 5)).alloc (Obj.cells #[Value.slice (some ⟨w1.heap.size, 0, none⟩) xs.length xs.length, Value.int IntKind.i64 ag, Value.slice A lg'.length cap, Value.int IntKind.i64 0] 85)) = W at *
    go_wp2
    go_region
    go_wp2
    go_ret
    exact HC.out
end
end Go.Proofs.Ytbpgblmhacpjlaa

/-
  A memory and a queue of a law's own: every call of the code's on them, and what it leaves; no condition.
-/
import Derived.Test.YtoblemgeacllkaaDl2
namespace Go.Proofs.Ytoblemgeacllkaa
open Go.RowKit

/-- Nothing has turned but blocks of a memory's and of a queue's types. -/
structure Far (w w' : World) : Prop where
  size : w.heap.size ≤ w'.heap.size
  block : ∀ (k : Nat) (t : TypeId) (cs : Array Value) (fr : Nat × Nat), w.heap[k]? = some (Obj.cells cs t fr) → t ≠ 91 → t ≠ 5 → t ≠ 111 → t ≠ 93 → w'.heap[k]? = w.heap[k]?
theorem Far.refl (w : World) : Far w w := ⟨Nat.le_refl _, fun _ _ _ _ _ _ _ _ _ => rfl⟩
theorem Far.trans {w w1 w2 : World} (h : Far w w1) (g : Far w1 w2) : Far w w2 :=
  ⟨Nat.le_trans h.size g.size, fun k t cs fr hk a b c d => by
    have e := h.block k t cs fr hk a b c d
    exact (g.block k t cs fr (e.trans hk) a b c d).trans e⟩
theorem Far.of_below {w w' : World} (h : Below w.heap.size w w') : Far w w' := ⟨h.size, fun k _ _ _ hk _ _ _ _ => h.block k (heap_lt hk)⟩
theorem Blk.far {w w' : World} {k : Nat} {t : TypeId} {cs : Array Value} (h : Blk w k t cs) (hk : Far w w') (a : t ≠ 91) (b : t ≠ 5) (c : t ≠ 111) (d : t ≠ 93) : Blk w' k t cs := h.same (hk.block k t cs _ h a b c d)
theorem own_far {w w' : World} {base : Nat} {e : TypeId} {size n : Nat} {v : Value} {xs : List Value} (h : w.ownsRow base e size v n xs) (hk : Far w w') (a : e ≠ 91) (b : e ≠ 5) (c : e ≠ 111) (d : e ≠ 93) : w'.ownsRow base e size v n xs := by
  refine ⟨h.1, ?_⟩
  rcases h.2 with hn | ⟨g, cap, cur, rfl, h1, hgg, rest⟩
  · exact .inl hn
  · exact .inr ⟨g, cap, cur, rfl, h1, (hk.block g e cur _ hgg a b c d).trans hgg, rest⟩
/-- A memory and a queue that came to be behind w, and all that was there as it was. -/
structure Ow (w : World) (gq g gb : Nat) (xs : List UInt8) (q : Qs) (W : World) : Prop where
  own : ∃ lv, Own w.heap.size gq g gb lv xs q W
  below : Below w.heap.size w W
section
variable {w : World} {gq g gb : Nat} {xs : List UInt8} {q : Qs} {W W' : World}
theorem Ow.next (h : Ow w gq g gb xs q W) (hb : Below W.heap.size W W') : Ow w gq g gb xs q W' := by
  obtain ⟨lv, ho⟩ := h.own
  exact ⟨⟨lv, ho.below hb⟩, b0 h.below hb⟩
theorem Ow.mem (h : Ow w gq g gb xs q W) : ∃ lv, Mem w.heap.size g gb lv xs W := by
  obtain ⟨lv, ho⟩ := h.own
  exact ⟨lv, ho.mem⟩
theorem Ow.rm (h : Ow w gq g gb xs q W) : ∃ lv, Rm ⟨w.heap.size, gq, g, gb, lv, xs, q, W⟩ W W ∧ ∀ q' xs' W', Qn ⟨w.heap.size, gq, g, gb, lv, xs, q, W⟩ q' xs' W' → Ow w gq g gb xs' q' W' ∧ Far W W' := by
  obtain ⟨lv, ho⟩ := h.own
  have hw := h.below
  refine ⟨lv, ⟨ho.blk, Noted.refl ho.mem, Keep.refl _, Nat.le_refl _⟩, fun q' xs' W' hQ => ?_⟩
  obtain ⟨lv1, hM, hL⟩ := hQ.mem
  refine ⟨⟨⟨lv1, ho.hq, hQ.blk, hM⟩, ?_⟩, hQ.size, fun k t cs fr hk a b c d => ?_⟩
  · have s1 := hw.size
    have s2 : W.heap.size ≤ W'.heap.size := hQ.size
    refine ⟨hQ.os.trans hw.os, hQ.tape.trans hw.tape, hQ.output.trans hw.output, Nat.le_trans s1 s2, fun k hk => ?_⟩
    have hge := ho.mem.ge
    have hq := ho.hq
    exact (hQ.block k (Nat.lt_of_lt_of_le hk s1) (by show k ≠ gq; omega) (by show k ≠ g; have := hge.1; omega) (by show k ≠ gb; have := hge.2.1; omega) (fun e => by have := hge.2.2 k e; omega)).trans (hw.block k hk)
  · obtain ⟨e1, e2, e3⟩ := ho.mem.far hk a b c
    refine hQ.block k (heap_lt hk) (fun e => ?_) e1 e2 e3
    have e : k = gq := e
    subst e
    have hb := ho.blk
    unfold Blk at hb
    rw [hb] at hk
    injection hk with hk
    injection hk with _ e2
    exact d e2.symm
/-- Next's answer -/
def NextP (w : World) (gq g gb : Nat) (xs : List UInt8) (W : World) (r : Ch × Bool × Int × Qs) (e : Ending) (W' : World) : Prop :=
  ∃ A cap, e = .returned (.tuple #[.agg #[.int .i64 (r.1.id : Int), .int .i64 (r.1.count : Int), .slice A r.1.parts.length cap], .bool r.2.1, .int .i64 r.2.2.1]) ∧ W'.ownsRow W.heap.size 56 3 (.slice A r.1.parts.length cap) r.1.parts.length (ptCells r.1.parts) ∧ Ow w gq g gb xs r.2.2.2 W' ∧ Far W W'
theorem Ow.nextQ (h : Ow w gq g gb xs q W) (hq : q.Ok xs.length) (r : Ch × Bool × Int × Qs) (hr : nextC xs q = r) :
    Calls Try.prog 11 #[.pointer (some ⟨gq, 0, none⟩)] W (NextP w gq g gb xs W r) := by
  obtain ⟨lv, hR, hQ⟩ := h.rm
  refine (next_any hR hq).mono fun e W' ⟨A, cap, he, ho, hn⟩ => ?_
  have he : e = .returned (.tuple #[.agg #[.int .i64 ((nextC xs q).1.id : Int), .int .i64 ((nextC xs q).1.count : Int), .slice A (nextC xs q).1.parts.length cap], .bool (nextC xs q).2.1, .int .i64 (nextC xs q).2.2.1]) := he
  have ho : W'.ownsRow W.heap.size 56 3 (.slice A (nextC xs q).1.parts.length cap) (nextC xs q).1.parts.length (ptCells (nextC xs q).1.parts) := ho
  have hn : Qn ⟨w.heap.size, gq, g, gb, lv, xs, q, W⟩ (nextC xs q).2.2.2 xs W' := hn
  rw [hr] at he ho hn
  exact ⟨A, cap, he, ho, hQ _ _ _ hn⟩
theorem Ow.doneQ (h : Ow w gq g gb xs q W) (hq : q.Ok xs.length) (hs : q.since ≤ 1099511627776) (id count written : Int) (r : Int × List UInt8 × Qs) (hr : doneC xs q id count written = r) :
    Calls Try.prog 14 #[.pointer (some ⟨gq, 0, none⟩), .int .i64 id, .int .i64 count, .int .i64 written] W fun e W' => e = .returned (.int .i64 r.1) ∧ Ow w gq g gb r.2.1 r.2.2 W' ∧ Far W W' := by
  obtain ⟨lv, hR, hQ⟩ := h.rm
  refine (done_any hR hq hs id count written).mono fun e W' ⟨he, hn⟩ => ?_
  have he : e = .returned (.int .i64 (doneC xs q id count written).1) := he
  have hn : Qn ⟨w.heap.size, gq, g, gb, lv, xs, q, W⟩ (doneC xs q id count written).2.2 (doneC xs q id count written).2.1 W' := hn
  rw [hr] at he hn
  exact ⟨he, hQ _ _ _ hn⟩
theorem Ow.tellQ (h : Ow w gq g gb xs q W) (hq : q.Ok xs.length) (r : Bool × Qs) (hr : tellC xs q = r) :
    Calls Try.prog 16 #[.pointer (some ⟨gq, 0, none⟩)] W fun e W' => e = .returned (.bool r.1) ∧ Ow w gq g gb xs r.2 W' ∧ Far W W' := by
  obtain ⟨lv, hR, hQ⟩ := h.rm
  refine (tell_any hR hq).mono fun e W' ⟨he, hn⟩ => ?_
  have he : e = .returned (.bool (tellC xs q).1) := he
  have hn : Qn ⟨w.heap.size, gq, g, gb, lv, xs, q, W⟩ (tellC xs q).2 xs W' := hn
  rw [hr] at he hn
  exact ⟨he, hQ _ _ _ hn⟩
theorem Ow.askQ (h : Ow w gq g gb xs q W) (hq : q.Ok xs.length) (o f : Int) (v : Bool) :
    Calls Try.prog 18 #[.pointer (some ⟨gq, 0, none⟩), .agg #[.int .i64 o, .bool v, .int .i64 f]] W fun e W' => e = .returned (.int .i64 (askE q o f)) ∧ Ow w gq g gb (askX xs q o v f) q W' ∧ Far W W' := by
  obtain ⟨lv, hR, hQ⟩ := h.rm
  exact (ask_any hR hq o f v).mono fun e W' ⟨he, hn⟩ => ⟨he, hQ _ _ _ hn⟩
theorem Ow.failQ (h : Ow w gq g gb xs q W) :
    Calls Try.prog 20 #[.pointer (some ⟨gq, 0, none⟩)] W fun e W' => e = .returned (.tuple #[]) ∧ Ow w gq g gb xs { q with broken := true } W' ∧ Far W W' := by
  obtain ⟨lv, hR, hQ⟩ := h.rm
  exact (Ytoblemgeacllkaa.failQ hR).mono fun e W' ⟨he, hn⟩ => ⟨he, hQ _ _ _ hn⟩
theorem Ow.brokenQ (h : Ow w gq g gb xs q W) : Calls Try.prog 25 #[.pointer (some ⟨gq, 0, none⟩)] W fun e W' => e = .returned (.bool q.broken) ∧ W = W' := by
  obtain ⟨lv, hR, hQ⟩ := h.rm
  exact broken_any hR
theorem Ow.outQ (h : Ow w gq g gb xs q W) : Calls Try.prog 26 #[.pointer (some ⟨gq, 0, none⟩)] W fun e W' => e = .returned (.int .i64 (q.out : Int)) ∧ W = W' := by
  obtain ⟨lv, hR, hQ⟩ := h.rm
  exact out_any hR
theorem Ow.noted {lv : Value} {ys : List UInt8} (h : Ow w gq g gb xs q W) (ho : Own w.heap.size gq g gb lv xs q W) (hn : Noted w.heap.size g gb lv ys W W') : Ow w gq g gb ys q W' ∧ Far W W' := by
  have hk := Keep.of_noted ho.mem hn
  have hw := h.below
  obtain ⟨lv2, hM2, hT2, hL2⟩ := hn
  refine ⟨⟨⟨lv2, ho.hq, ho.blk.keep hk (by decide) (by decide) (by decide), hM2⟩, ?_⟩, hk.size, fun k t cs fr x a b c _ => hk.block k t cs fr x a b c⟩
  have hge := ho.mem.ge
  have s1 := hw.size
  exact ⟨hT2.os.trans hw.os, hT2.tape.trans hw.tape, hT2.output.trans hw.output, Nat.le_trans s1 hT2.size, fun k hk => (hT2.block k (by omega) (by have := hge.1; omega) (by have := hge.2.1; omega) (fun e => by have := hge.2.2 k e; omega)).trans (hw.block k hk)⟩
theorem Ow.writeQ (h : Ow w gq g gb xs q W) (a : Int) (s : ByteArray) (hs : s.size ≤ maxLen) :
    Calls Try.prog 9 #[.pointer (some ⟨g, 0, none⟩), .int .i64 a, .string s] W fun e W' => e = .returned (.int .i64 (wrE xs a s)) ∧ Ow w gq g gb (wrX xs a s) q W' ∧ Far W W' := by
  obtain ⟨lv, ho⟩ := h.own
  exact (write_any ho.mem a s hs).mono fun e W' ⟨he, hn⟩ => ⟨he, h.noted ho hn⟩
theorem Ow.loadQ (h : Ow w gq g gb xs q W) (a n : Nat) (hw : Word n) (hn : a + n ≤ xs.length) (v : Nat) (hv : val ((xs.drop a).take n) = v) :
    Calls Try.prog 30 #[.pointer (some ⟨g, 0, none⟩), .int .i64 a, .int .i64 n] W fun e W' => e = .returned (.tuple #[.int .u64 (v : Int), .int .i64 0]) ∧ Ow w gq g gb xs q W' ∧ Far W W' := by
  obtain ⟨lv, ho⟩ := h.own
  subst hv
  exact (load_ok ho.mem a n hw hn).mono fun e W' ⟨he, hn⟩ => ⟨he, h.noted ho hn⟩
theorem Ow.imageQ (h : Ow w gq g gb xs q W) : Calls Try.prog 24 #[.pointer (some ⟨g, 0, none⟩)] W fun e W' => e = .returned (.string ⟨xs.toArray⟩) ∧ W = W' := by
  obtain ⟨lv, hM⟩ := h.mem
  exact image_m hM
theorem Ow.checkQ (h : Ow w gq g gb xs q W) (r z x y : Int) : Calls Try.prog 32 #[.pointer (some ⟨g, 0, none⟩), .agg #[.int .i64 r, .int .i64 z, .int .i64 x, .int .i64 y]] W fun e W' => e = .returned (.int .i64 (layE xs r z x y)) ∧ Below W.heap.size W W' := by
  obtain ⟨lv, hM⟩ := h.mem
  exact check_any hM r z x y
theorem Ow.newQ (h : Ow w gq g gb xs q W) (r z x y : Int) (hl : layB xs r z x y = false) : Calls Try.prog 35 #[.pointer (some ⟨g, 0, none⟩), .agg #[.int .i64 r, .int .i64 z, .int .i64 x, .int .i64 y]] W fun e W' => Below W.heap.size W W' ∧ e = .returned (.tuple #[.pointer none, .int .i64 140]) := by
  obtain ⟨lv, hM⟩ := h.mem
  exact newbad hM r z x y hl
end
end Go.Proofs.Ytoblemgeacllkaa

/-
  Two queues of a law's own, over two memories: every call on the one leaves the other; no condition.
-/
import Derived.Test.YtoblemgeacllkaaDl5
namespace Go.Proofs.Ytoblemgeacllkaa
open Go.RowKit

theorem partsGo_length {xs : List UInt8} : ∀ {l : List De} {w : Bool} {p : List Pt}, partsGo xs l w = some p → p.length = l.length := by
  intro l
  induction l with
  | nil => intro w p h; simp [partsGo] at h; subst h; rfl
  | cons d r ih =>
    intro w p h
    unfold partsGo at h
    split at h
    · cases hp : partsGo xs r (d.bit 2) with
      | none => rw [hp] at h; cases h
      | some q => rw [hp] at h; simp at h; subst h; simp [ih hp]
    · cases h
theorem chain_parts {xs : List UInt8} {q : Qs} {h : Ch} (hV : chainV xs q = some h) : h.parts.length ≤ 64 := by
  unfold chainV at hV
  cases hr : ringV xs q with
  | none => rw [hr] at hV; cases hV
  | some l =>
    rw [hr] at hV
    have hl : l.length ≤ 64 := by
      have := (ringGo_length hr).2
      unfold allowed at this
      simp at this
      omega
    cases hn : nameV xs l with
    | none => simp [hn] at hV
    | some n =>
      have hn2 := nameV_length hn hl
      cases hp : partsGo xs n false with
      | none => simp [hn, hp] at hV
      | some p =>
        simp [hn, hp] at hV
        subst hV
        have := partsGo_length hp
        show p.length ≤ 64
        omega
theorem next_parts (xs : List UInt8) (q : Qs) : (nextC xs q).1.parts.length ≤ 64 := by
  unfold nextC
  split
  · exact Nat.zero_le _
  split
  · exact Nat.zero_le _
  split
  · split
    · exact Nat.zero_le _
    · rename_i h hV; exact chain_parts hV
  · exact Nat.zero_le _
theorem layB_len {xs ys : List UInt8} (h : xs.length = ys.length) (r z x y : Int) : layB xs r z x y = layB ys r z x y := by
  unfold layB fitsB mayB
  rw [h]

/-- Two queues of one's own. -/
structure Duo (w : World) (gq g gb : Nat) (xs : List UInt8) (q : Qs) (gq' g' gb' : Nat) (xs' : List UInt8) (q' : Qs) (W : World) : Prop where
  own : ∃ lv lv', Own w.heap.size gq g gb lv xs q W ∧ Own w.heap.size gq' g' gb' lv' xs' q' W ∧ ∀ k, lv.ownBlock = some k → lv'.ownBlock ≠ some k
  nq : gq ≠ gq'
  ng : g ≠ g'
  nb : gb ≠ gb'
  below : Below w.heap.size w W
section
variable {w : World} {gq g gb : Nat} {xs : List UInt8} {q : Qs} {gq' g' gb' : Nat} {xs' : List UInt8} {q' : Qs} {W W' : World}
theorem Duo.left (h : Duo w gq g gb xs q gq' g' gb' xs' q' W) : Ow w gq g gb xs q W := by
  obtain ⟨lv, lv', h1, h2, h3⟩ := h.own
  exact ⟨⟨lv, h1⟩, h.below⟩
theorem Duo.right (h : Duo w gq g gb xs q gq' g' gb' xs' q' W) : Ow w gq' g' gb' xs' q' W := by
  obtain ⟨lv, lv', h1, h2, h3⟩ := h.own
  exact ⟨⟨lv', h2⟩, h.below⟩
theorem Duo.swap (h : Duo w gq g gb xs q gq' g' gb' xs' q' W) : Duo w gq' g' gb' xs' q' gq g gb xs q W := by
  obtain ⟨lv, lv', h1, h2, h3⟩ := h.own
  exact ⟨⟨lv', lv, h2, h1, fun k hk hk' => h3 k hk' hk⟩, h.nq.symm, h.ng.symm, h.nb.symm, h.below⟩
theorem Duo.next (h : Duo w gq g gb xs q gq' g' gb' xs' q' W) (hb : Below W.heap.size W W') : Duo w gq g gb xs q gq' g' gb' xs' q' W' := by
  obtain ⟨lv, lv', h1, h2, h3⟩ := h.own
  exact ⟨⟨lv, lv', h1.below hb, h2.below hb, h3⟩, h.nq, h.ng, h.nb, b0 h.below hb⟩
/-- blocks of the one are none of the other's -/
theorem Own.far2 {B : Nat} {lv lv' : Value} (h : Own B gq g gb lv xs q W) (h' : Own B gq' g' gb' lv' xs' q' W) (nq : gq ≠ gq') (ng : g ≠ g') (nb : gb ≠ gb') (hl : ∀ k, lv.ownBlock = some k → lv'.ownBlock ≠ some k)
    (hk : ∀ k, k < W.heap.size → k ≠ gq → k ≠ g → k ≠ gb → lv.ownBlock ≠ some k → W'.heap[k]? = W.heap[k]?) : Own B gq' g' gb' lv' xs' q' W' := by
  obtain ⟨ag, lg, old, m⟩ := h.mem
  obtain ⟨ag', lg', old', m'⟩ := h'.mem
  have e1 : W'.heap[gq']? = W.heap[gq']? := hk _ h'.blk.lt nq.symm (h'.blk.ne m.blk (by decide)) (h'.blk.ne m.row (by decide)) (own_ne m.log h'.blk (by decide))
  have e2 : W'.heap[g']? = W.heap[g']? := hk _ m'.blk.lt (m'.blk.ne h.blk (by decide)) ng.symm (m'.blk.ne m.row (by decide)) (own_ne m.log m'.blk (by decide))
  have e3 : W'.heap[gb']? = W.heap[gb']? := hk _ m'.row.lt (m'.row.ne h.blk (by decide)) (m'.row.ne m.blk (by decide)) nb.symm (own_ne m.log m'.row (by decide))
  have e4 : ∀ k, lv'.ownBlock = some k → W'.heap[k]? = W.heap[k]? := fun k hk' =>
    hk k (m'.log.lt k hk').2 (fun e => own_ne m'.log h.blk (by decide) (e ▸ hk')) (fun e => own_ne m'.log m.blk (by decide) (e ▸ hk')) (fun e => own_ne m'.log m.row (by decide) (e ▸ hk')) (fun e => hl k e hk')
  exact ⟨h'.hq, h'.blk.same e1, ag', lg', old', m'.kept e2 e3 e4⟩
theorem Duo.rm (h : Duo w gq g gb xs q gq' g' gb' xs' q' W) : ∃ lv, Rm ⟨w.heap.size, gq, g, gb, lv, xs, q, W⟩ W W ∧ ∀ q1 xs1 W', Qn ⟨w.heap.size, gq, g, gb, lv, xs, q, W⟩ q1 xs1 W' → Duo w gq g gb xs1 q1 gq' g' gb' xs' q' W' ∧ Far W W' := by
  obtain ⟨lv, lv', h1, h2, h3⟩ := h.own
  have ho : Ow w gq g gb xs q W := h.left
  refine ⟨lv, ⟨h1.blk, Noted.refl h1.mem, Keep.refl _, Nat.le_refl _⟩, fun q1 xs1 W' hQ => ?_⟩
  obtain ⟨lv1, hM, hL⟩ := hQ.mem
  have hge := h1.mem.ge
  have hq := h1.hq
  have s1 := h.below.size
  have s2 : W.heap.size ≤ W'.heap.size := hQ.size
  have hge2 := h2.mem.ge
  have hq2 := h2.hq
  refine ⟨⟨⟨lv1, lv', ⟨h1.hq, hQ.blk, hM⟩, h1.far2 h2 h.nq h.ng h.nb h3 hQ.block, fun k hk hk' => ?_⟩, h.nq, h.ng, h.nb, ?_⟩, hQ.size, fun k t cs fr hk a b c d => ?_⟩
  · rcases hL k hk with e | e
    · exact h3 k e hk'
    · have e : W.heap.size ≤ k := e
      obtain ⟨ag', lg', old', m'⟩ := h2.mem
      have := (m'.log.lt k hk').2
      omega
  · refine ⟨hQ.os.trans h.below.os, hQ.tape.trans h.below.tape, hQ.output.trans h.below.output, Nat.le_trans s1 s2, fun k hk => ?_⟩
    exact (hQ.block k (Nat.lt_of_lt_of_le hk s1) (by show k ≠ gq; omega) (by show k ≠ g; have := hge.1; omega) (by show k ≠ gb; have := hge.2.1; omega) (fun e => by have := hge.2.2 k e; omega)).trans (h.below.block k hk)
  · obtain ⟨e1, e2, e3⟩ := h1.mem.far hk a b c
    refine hQ.block k (heap_lt hk) (fun e => ?_) e1 e2 e3
    have e : k = gq := e
    subst e
    have hb := h1.blk
    unfold Blk at hb
    rw [hb] at hk
    injection hk with hk
    injection hk with _ e2
    exact d e2.symm
def NextD (w : World) (gq g gb : Nat) (xs : List UInt8) (gq' g' gb' : Nat) (xs' : List UInt8) (q' : Qs) (W : World) (r : Ch × Bool × Int × Qs) (e : Ending) (W' : World) : Prop :=
  ∃ A cap, e = .returned (.tuple #[.agg #[.int .i64 (r.1.id : Int), .int .i64 (r.1.count : Int), .slice A r.1.parts.length cap], .bool r.2.1, .int .i64 r.2.2.1]) ∧ W'.ownsRow W.heap.size 56 3 (.slice A r.1.parts.length cap) r.1.parts.length (ptCells r.1.parts) ∧ Duo w gq g gb xs r.2.2.2 gq' g' gb' xs' q' W' ∧ Far W W'
theorem Duo.nextQ (h : Duo w gq g gb xs q gq' g' gb' xs' q' W) (hq : q.Ok xs.length) (r : Ch × Bool × Int × Qs) (hr : nextC xs q = r) :
    Calls Try.prog 11 #[.pointer (some ⟨gq, 0, none⟩)] W (NextD w gq g gb xs gq' g' gb' xs' q' W r) := by
  obtain ⟨lv, hR, hQ⟩ := h.rm
  refine (next_any hR hq).mono fun e W' ⟨A, cap, he, ho, hn⟩ => ?_
  have he : e = .returned (.tuple #[.agg #[.int .i64 ((nextC xs q).1.id : Int), .int .i64 ((nextC xs q).1.count : Int), .slice A (nextC xs q).1.parts.length cap], .bool (nextC xs q).2.1, .int .i64 (nextC xs q).2.2.1]) := he
  have ho : W'.ownsRow W.heap.size 56 3 (.slice A (nextC xs q).1.parts.length cap) (nextC xs q).1.parts.length (ptCells (nextC xs q).1.parts) := ho
  have hn : Qn ⟨w.heap.size, gq, g, gb, lv, xs, q, W⟩ (nextC xs q).2.2.2 xs W' := hn
  rw [hr] at he ho hn
  exact ⟨A, cap, he, ho, hQ _ _ _ hn⟩
theorem Duo.doneQ (h : Duo w gq g gb xs q gq' g' gb' xs' q' W) (hq : q.Ok xs.length) (hs : q.since ≤ 1099511627776) (id count written : Int) :
    Calls Try.prog 14 #[.pointer (some ⟨gq, 0, none⟩), .int .i64 id, .int .i64 count, .int .i64 written] W fun e W' => e = .returned (.int .i64 (doneC xs q id count written).1) ∧ Duo w gq g gb (doneC xs q id count written).2.1 (doneC xs q id count written).2.2 gq' g' gb' xs' q' W' ∧ Far W W' := by
  obtain ⟨lv, hR, hQ⟩ := h.rm
  exact (done_any hR hq hs id count written).mono fun e W' ⟨he, hn⟩ => ⟨he, hQ _ _ _ hn⟩
theorem Duo.failQ (h : Duo w gq g gb xs q gq' g' gb' xs' q' W) :
    Calls Try.prog 20 #[.pointer (some ⟨gq, 0, none⟩)] W fun e W' => e = .returned (.tuple #[]) ∧ Duo w gq g gb xs { q with broken := true } gq' g' gb' xs' q' W' ∧ Far W W' := by
  obtain ⟨lv, hR, hQ⟩ := h.rm
  exact (Go.Proofs.Ytoblemgeacllkaa.failQ hR).mono fun e W' ⟨he, hn⟩ => ⟨he, hQ _ _ _ hn⟩
/-- the memory's clone -/
theorem Ow.cloneM (h : Ow w gq g gb xs q W) : Calls Try.prog 21 #[.pointer (some ⟨g, 0, none⟩)] W (Cloned xs W) := by
  obtain ⟨lv, hM⟩ := h.mem
  exact clone_m hM
/-- the queue's clone over it -/
theorem Ow.cloneQ {g2 gb2 : Nat} {lv2 : Value} {W1 : World} (h : Ow w gq g gb xs q W) (hb : Below W.heap.size W W1) (hM : Mem W.heap.size g2 gb2 lv2 xs W1) :
    Calls Try.prog 22 #[.pointer (some ⟨gq, 0, none⟩), .pointer (some ⟨g2, 0, none⟩)] W1 fun e W2 => e = .returned (.pointer (some ⟨W1.heap.size, 0, none⟩)) ∧ Duo w W1.heap.size g2 gb2 xs q gq g gb xs q W2 := by
  obtain ⟨lv, ho⟩ := h.own
  have ho1 := ho.below hb
  have hR : Rm ⟨w.heap.size, gq, g, gb, lv, xs, q, W1⟩ W1 W1 := ⟨ho1.blk, Noted.refl ho1.mem, Keep.refl _, Nat.le_refl _⟩
  refine (qclone_any hR g2).mono fun e W2 ⟨he, hw⟩ => ⟨he, ?_⟩
  subst hw
  have s0 := h.below.size
  have s1 := hb.size
  obtain ⟨ag, lg, old, m⟩ := ho.mem
  have hge := hM.ge
  refine ⟨⟨lv2, lv, ⟨by omega, Blk.new _ _ _, (hM.down s0).below ((Below.refl _ _).alloc (Nat.le_refl _) _) (Nat.le_refl _)⟩, ho1.below (ba (Below.refl _ _) _), fun k hk hk' => ?_⟩, ?_, ?_, ?_, b0 h.below (ba hb _)⟩
  · have a1 := hge.2.2 k hk
    have a2 := (m.log.lt k hk').2
    omega
  · have := ho.blk.lt; omega
  · have := m.blk.lt; have := hge.1; omega
  · have := m.row.lt; have := hge.2.1; omega
end
end Go.Proofs.Ytoblemgeacllkaa

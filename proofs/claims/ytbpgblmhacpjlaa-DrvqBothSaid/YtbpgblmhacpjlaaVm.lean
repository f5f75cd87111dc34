/-
  The driver's side of a queue, its numbers; the map of held ids as it lies in memory; no condition.
-/
import Derived.Test.YtbpgblmhacpjlaaSep
import Derived.Maps.OwnSet
import Derived.Maps.OwnOps
import Derived.Lib.SlKeysI
namespace Go.Proofs.Ytbpgblmhacpjlaa
open Go.RowKit Go.Maps

/-! the held ids -/
def heldL (hs : List Nat) : List Nat := (List.range hs.length).filter fun i => decide (0 < hs.getD i 0)
theorem mem_heldL {hs : List Nat} {i : Nat} : i ∈ heldL hs ↔ 0 < hs.getD i 0 := by
  unfold heldL
  rw [List.mem_filter, List.mem_range, decide_eq_true_eq]
  constructor
  · exact fun h => h.2
  · intro h
    refine ⟨?_, h⟩
    rcases Nat.lt_or_ge i hs.length with h1 | h1
    · exact h1
    · rw [List.getD_eq_getElem?_getD, List.getElem?_eq_none h1] at h; simp at h
theorem heldL_length (hs : List Nat) : (heldL hs).length ≤ hs.length := by
  unfold heldL
  have := List.length_filter_le (fun i => decide (0 < hs.getD i 0)) (List.range hs.length)
  simpa using this
theorem heldL_lt {hs : List Nat} {i : Nat} (h : i ∈ heldL hs) : i < hs.length := by
  unfold heldL at h
  exact List.mem_range.1 (List.mem_filter.1 h).1
theorem heldL_sorted (hs : List Nat) : (heldL hs).Pairwise (· < ·) := (List.pairwise_lt_range).filter _
theorem heldL_nodup (hs : List Nat) : (heldL hs).Nodup := (heldL_sorted hs).imp fun h => Nat.ne_of_lt h

/-- The map holds each id's places. -/
def MIs (D : DataW Unit) (hs : List Nat) : Prop :=
  (∀ x : Int, Maps.has D (.int .i64 x) = decide (0 ≤ x ∧ 0 < hs.getD x.toNat 0)) ∧ ∀ i : Nat, D.atKey (.int .i64 (i : Int)) (.lit (.int .i64 0)) = .lit (.int .i64 (hs.getD i 0 : Int))
theorem MIs.empty (n : Nat) : MIs (.map []) (List.replicate n 0) := by
  have e : ∀ i, (List.replicate n 0).getD i 0 = 0 := fun i => by
    rw [List.getD_eq_getElem?_getD, List.getElem?_replicate]
    split <;> rfl
  refine ⟨fun x => ?_, fun i => ?_⟩
  · rw [e]; simp [has]
  · rw [e]; rfl
theorem getD_set {hs : List Nat} {i : Nat} (hi : i < hs.length) (n j : Nat) : (hs.set i n).getD j 0 = if j = i then n else hs.getD j 0 := by
  rw [List.getD_eq_getElem?_getD, List.getElem?_set, List.getD_eq_getElem?_getD]
  by_cases h : i = j
  · subst h; simp [hi]
  · have h' : ¬ j = i := fun e => h e.symm
    simp [h, h']
theorem key_ne {i : Nat} {x : Int} (h : ¬ x = (i : Int)) : (Lit.int .i64 x) ≠ .int .i64 (i : Int) := by
  intro e
  injection e with _ e
  exact h e
theorem MIs.put {D : DataW Unit} {hs : List Nat} (h : MIs D hs) (hD : IsMap D) {i n : Nat} (hi : i < hs.length) (hn : 0 < n) (hb : i ≤ 1048576) : MIs (D.put (.int .i64 (i : Int)) (.lit (.int .i64 (n : Int)))) (hs.set i n) := by
  have hk : WideAt.IsKeyLit (.int .i64 (i : Int)) := trivial
  refine ⟨fun x => ?_, fun j => ?_⟩
  · rw [getD_set hi]
    by_cases e : x = (i : Int)
    · subst e; rw [has_put_same hD hk]; simp [hn]
    · rw [has_put_other (key_ne e), h.1 x]
      by_cases h0 : 0 ≤ x
      · rw [if_neg (by omega)]
      · simp [h0]
  · rw [getD_set hi]
    by_cases e : j = i
    · subst e; rw [atKey_put_same hD hk, if_pos rfl]
    · rw [atKey_put_other (key_ne (by omega)), h.2 j, if_neg e]
theorem MIs.del {D : DataW Unit} {hs : List Nat} (h : MIs D hs) {i : Nat} (hi : i < hs.length) : MIs (D.del (.int .i64 (i : Int))) (hs.set i 0) := by
  refine ⟨fun x => ?_, fun j => ?_⟩
  · rw [getD_set hi]
    by_cases e : x = (i : Int)
    · subst e; rw [has_del_same]; simp
    · rw [has_del_other (key_ne e), h.1 x]
      by_cases h0 : 0 ≤ x
      · rw [if_neg (by omega)]
      · simp [h0]
  · rw [getD_set hi]
    by_cases e : j = i
    · subst e; rw [atKey_del_same, if_pos rfl]; rfl
    · rw [atKey_del_other (key_ne (by omega)), h.2 j, if_neg e]

theorem lit_inj {a b : Int} (h : (DataW.lit (.int .i64 a) : DataW Unit) = .lit (.int .i64 b)) : a = b := by simpa using h
theorem Try.law3 : Keyed Try.prog 3 := int_keyed Try.underlying3
theorem Try.zero3 (w : World) : (zeroValue 3).run Try.prog w = .ok (.int .i64 0) w := by kernel_rfl
theorem key_of {n : Nat} (h : n ≤ 1048576) : keyOf Try.prog 3 (.int .i64 (n : Int)) = some (.int .i64 (n : Int)) := keyOf_int_mk Try.underlying3 (WalkArith.wf_i64 (by omega))
/-- The map as it lies in memory. -/
def MapAt (bm : Nat) (hs : List Nat) (w : World) : Prop := ∃ (D : DataW Unit) (n : Nat), w.ownsMap Try.prog 3 (plainElem Try.prog 3) bm n D ∧ MIs D hs
theorem MapAt.same {bm : Nat} {hs : List Nat} {w w' : World} (h : MapAt bm hs w) (hb : w'.heap[bm]? = w.heap[bm]?) : MapAt bm hs w' := by
  obtain ⟨D, n, ⟨es, clock, hh, r⟩, hm⟩ := h
  exact ⟨D, n, ⟨es, clock, hb.trans hh, r⟩, hm⟩
theorem MapAt.lt {bm : Nat} {hs : List Nat} {w : World} (h : MapAt bm hs w) : bm < w.heap.size := by
  obtain ⟨D, n, h, -⟩ := h
  exact h.lt
theorem keys_perm {bm n : Nat} {hs : List Nat} {D : DataW Unit} {w : World} (h : w.ownsMap Try.prog 3 (plainElem Try.prog 3) bm n D) (hm : MIs D hs) : ((heldL hs).map fun i : Nat => (i : Int)).Perm (intKeys D) := by
  obtain ⟨es, hD, hpw, -⟩ := h.entries Try.law3
  obtain ⟨es', hD', hko⟩ := h.keysOf
  obtain rfl : es = es' := by rw [hD] at hD'; simpa using hD'
  subst hD
  refine perm_intKeys hpw (fun p hp => ?_) ?_ (fun x => ?_)
  · obtain ⟨v, hv⟩ := hko p hp
    obtain ⟨x, _, hx, _⟩ := Maps.keyOf_i64 Try.underlying3 hv
    exact ⟨x, hx⟩
  · exact List.pairwise_map.2 ((heldL_nodup hs).imp fun {a b} hne e => hne (by omega))
  · rw [hm.1 x, List.mem_map]
    simp only [decide_eq_true_eq]
    constructor
    · rintro ⟨i, hi, rfl⟩
      exact ⟨by omega, by simpa using mem_heldL.1 hi⟩
    · rintro ⟨h0, h1⟩
      exact ⟨x.toNat, mem_heldL.2 h1, by omega⟩
theorem MapAt.tight {bm : Nat} {hs : List Nat} {w : World} (h : MapAt bm hs w) : ∃ D : DataW Unit, w.ownsMap Try.prog 3 (plainElem Try.prog 3) bm hs.length D ∧ MIs D hs ∧ Maps.size D ≤ hs.length := by
  obtain ⟨D, n, h, hm⟩ := h
  have hp := keys_perm h hm
  have hlen : Maps.size D ≤ hs.length := by
    obtain ⟨es, hD, -⟩ := h.entries Try.law3
    subst hD
    have e := hp.length_eq
    have := heldL_length hs
    simp only [List.length_map, intKeys] at e
    show es.length ≤ _
    omega
  refine ⟨D, ?_, hm, hlen⟩
  obtain ⟨es, clock, hh, F, hs', hD⟩ := h
  refine ⟨es, clock, hh, F, ?_, hD⟩
  have e1 : Maps.size D = es.size := by rw [hD]; simp [Maps.size, length_sorted]
  omega
section
variable {bm : Nat} {hs : List Nat} {w : World}
theorem MapAt.look (h : MapAt bm hs w) (x : Nat) (hx : x ≤ 1048576) : (Instr.lookup 88 (.map (some bm)) (.int .i64 (x : Int)) false).run Try.prog w = .ok (.int .i64 (hs.getD x 0 : Int)) w := by
  obtain ⟨D, n, h, hm⟩ := h
  obtain ⟨c, hrun, hat, -⟩ := h.lookup_int Try.law3 Try.underlying88 Try.underlying3 (Try.zero3 w) (key_of hx)
  rw [hm.2 x] at hat
  have hat := lit_inj hat
  rw [hrun, hat]
theorem MapAt.lookOk (h : MapAt bm hs w) (x : Nat) (hx : x ≤ 1048576) : (Instr.lookup 88 (.map (some bm)) (.int .i64 (x : Int)) true).run Try.prog w = .ok (.tuple #[.int .i64 (hs.getD x 0 : Int), .bool (decide (0 < hs.getD x 0))]) w := by
  obtain ⟨D, n, h, hm⟩ := h
  obtain ⟨v, ps, hrun, hv⟩ := h.look_ok Try.law3 Try.underlying88 (Try.zero3 w) (plainElem_int (H := Unit) Try.underlying3 (by decide : (Lit.int .i64 0).wf = true)) (key_of hx)
  obtain ⟨c, rfl, hc, hwc⟩ := plainElem_int_inv Try.underlying3 hv
  have hc := congrArg Prod.fst hc
  have hat := hm.2 x
  simp only at hc
  rw [hc] at hat
  have hat := lit_inj hat
  rw [hrun, hat, hm.1]
  simp
end
/-- the map -/
def mapA (bm : Nat) (hs : List Nat) : As where
  P F w := MapAt bm hs w ∧ ∀ k, F k ↔ k = bm
  lt := by
    rintro F w ⟨h, hF⟩ k hk
    rw [(hF k).1 hk]; exact h.lt
  keep := by
    rintro F w w' ⟨h, hF⟩ hk
    exact ⟨h.same (hk bm ((hF bm).2 rfl)), hF⟩
section
variable {F : Nat → Prop} {bm : Nat} {hs hs' : List Nat} {w w' : World}
theorem St.turned (hF : ∀ k, F k ↔ k = bm) (h : MapAt bm hs' w') (ht : w.mapTurned w' bm) : St F w (mapA bm hs') w' := by
  have hg := ht.grown
  exact ⟨F, ⟨h, hF⟩, ⟨hg.os, hg.tape, hg.output, hg.size, fun k hk hn => hg.block k hk (fun e => hn ((hF k).2 (by simpa using e)))⟩, fun _ hk => .inl hk⟩
theorem mapA_store (h : (mapA bm hs).P F w) {i n : Nat} (hi : i < hs.length) (hn : 0 < n) (hl : hs.length ≤ 32768) (hb : n ≤ 1048576) :
    ∃ w', (Instr.mapUpdate 88 (.map (some bm)) (.int .i64 (i : Int)) (.int .i64 (n : Int))).run Try.prog w = .ok () w' ∧ St F w (mapA bm (hs.set i n)) w' := by
  obtain ⟨hM, hF⟩ := h
  obtain ⟨D, hown, hm, -⟩ := hM.tight
  obtain ⟨w', hrun, hown', ht⟩ := hown.store Try.law3 Try.underlying88 (by unfold maxLen; omega) (key_of (by omega : i ≤ 1048576)) (val := .int .i64 (n : Int)) (plainElem_int Try.underlying3 (WalkArith.wf_i64 (by omega)))
  exact ⟨w', hrun, St.turned hF ⟨_, _, hown', hm.put hown.isMap hi hn (by omega)⟩ ht⟩
theorem mapA_drop (h : (mapA bm hs).P F w) {i : Nat} (hi : i < hs.length) (hl : hs.length ≤ 32768) (ty : TypeId) :
    ∃ w', (Builtin.delete_ #[88, 3] ty #[.map (some bm), .int .i64 (i : Int)]).run Try.prog w = .ok (.tuple #[]) w' ∧ St F w (mapA bm (hs.set i 0)) w' := by
  obtain ⟨hM, hF⟩ := h
  obtain ⟨D, n, hown, hm⟩ := hM
  obtain ⟨w', hrun, hown', ht⟩ := hown.drop Try.law3 Try.underlying88 (key_of (by omega : i ≤ 1048576)) ty
  exact ⟨w', hrun, St.turned hF ⟨_, _, hown', hm.del hi⟩ ht⟩
theorem mapA_made (n : Nat) (w : World) : (mapA w.heap.size (List.replicate n 0)).P (fun k => k = w.heap.size) (w.alloc (.map #[] 0)) :=
  ⟨⟨.map [], 0, World.ownsMap_made _ _ _ _, MIs.empty n⟩, fun _ => Iff.rfl⟩
end

/-- The driver's side of a queue. -/
structure Vs where
  ring : Nat
  size : Nat
  drv : Nat
  dev : Nat
  na : Nat
  nw : Bool
  ba : Nat
  bw : Bool
  ta : Nat
  tw : Bool
  since : Nat
  hs : List Nat
structure Vs.Ok (q : Vs) (n : Nat) : Prop where
  s1 : 1 ≤ q.size
  s2 : q.size ≤ 32768
  r : q.ring + 16 * q.size ≤ n
  drv : q.drv + 4 ≤ n
  dev : q.dev + 4 ≤ n
  na : q.na < q.size
  ba : q.ba < q.size
  ta : q.ta < q.size
  hl : q.hs.length = q.size
  sum : q.hs.sum ≤ q.size
def Vs.free (q : Vs) : Nat := q.size - q.hs.sum
/-- as it lies in its block -/
def Vs.cells (q : Vs) (g bm low : Nat) : Array Value :=
  #[.pointer (some ⟨g, 0, none⟩), .int .i64 (q.ring : Int), .int .i64 (q.size : Int), .int .i64 (q.drv : Int), .int .i64 (q.dev : Int), .int .i64 (q.na : Int), .bool q.nw, .int .i64 (q.ba : Int), .bool q.bw, .map (some bm), .int .i64 (q.free : Int), .int .i64 (low : Int), .int .i64 (q.ta : Int), .bool q.tw, .int .i64 (q.since : Int)]
/-- all below it are held -/
def LowOk (low : Nat) (hs : List Nat) : Prop := low ≤ hs.length ∧ ∀ i, i < low → 0 < hs.getD i 0
/-- the least id that is not held -/
def leastId (hs : List Nat) : Nat := hs.findIdx (· == 0)
theorem sum_pos : ∀ (l : List Nat), (∀ x ∈ l, 0 < x) → l.length ≤ l.sum
  | [], _ => Nat.le_refl _
  | a :: l, h => by
    have h1 := sum_pos l (fun x hx => h x (by simp [hx]))
    have h2 := h a (by simp)
    simp only [List.length_cons, List.sum_cons]
    omega
theorem least_lt {hs : List Nat} (h : hs.sum < hs.length) : leastId hs < hs.length := by
  unfold leastId
  rcases Nat.lt_or_ge (hs.findIdx (· == 0)) hs.length with h1 | h1
  · exact h1
  · have h2 := List.findIdx_eq_length.1 (Nat.le_antisymm List.findIdx_le_length h1)
    have := sum_pos hs (fun x hx => by have := h2 x hx; simp at this; omega)
    omega
theorem least_zero {hs : List Nat} (h : leastId hs < hs.length) : hs.getD (leastId hs) 0 = 0 := by
  unfold leastId at h ⊢
  have := List.findIdx_getElem (w := h)
  rw [List.getD_eq_getElem?_getD, List.getElem?_eq_getElem h]
  simpa using this
theorem least_pos {hs : List Nat} {i : Nat} (h : i < leastId hs) : 0 < hs.getD i 0 := by
  have h1 : i < hs.length := Nat.lt_of_lt_of_le h List.findIdx_le_length
  have := List.not_of_lt_findIdx h
  rw [List.getD_eq_getElem?_getD, List.getElem?_eq_getElem h1]
  simp at this ⊢
  omega
theorem least_is {hs : List Nat} {i : Nat} (h0 : hs.getD i 0 = 0) (h : ∀ j, j < i → 0 < hs.getD j 0) (hi : i < hs.length) : leastId hs = i := by
  rcases Nat.lt_trichotomy (leastId hs) i with h1 | h1 | h1
  · have := h _ h1
    rw [least_zero (by omega)] at this; omega
  · exact h1
  · have := least_pos h1; omega
theorem low_le {low : Nat} {hs : List Nat} (h : LowOk low hs) (hl : leastId hs < hs.length) : low ≤ leastId hs := by
  rcases Nat.lt_or_ge (leastId hs) low with h1 | h1
  · have := h.2 _ h1
    rw [least_zero hl] at this; omega
  · exact h1
theorem sum_set : ∀ (l : List Nat) (i n : Nat), i < l.length → (l.set i n).sum + l.getD i 0 = l.sum + n
  | [], i, n, h => by simp at h
  | a :: l, 0, n, _ => by simp; omega
  | a :: l, i + 1, n, h => by
    have := sum_set l i n (by simpa using h)
    simp only [List.set_cons_succ, List.sum_cons, List.getD_cons_succ]
    omega
theorem le_sum : ∀ (l : List Nat) (i : Nat), l.getD i 0 ≤ l.sum
  | [], i => by simp
  | a :: l, 0 => by simp
  | a :: l, i + 1 => by
    have := le_sum l i
    simp only [List.sum_cons, List.getD_cons_succ]
    omega
theorem low_post {hs : List Nat} {n : Nat} (hl : leastId hs < hs.length) (hn : 0 < n) : LowOk (leastId hs + 1) (hs.set (leastId hs) n) := by
  refine ⟨by simp; omega, fun i hi => ?_⟩
  rw [getD_set hl]
  split
  · exact hn
  · exact least_pos (by omega)
theorem low_reap {low : Nat} {hs : List Nat} {i : Nat} (h : LowOk low hs) (hi : i < hs.length) : LowOk (min low i) (hs.set i 0) := by
  refine ⟨by have := h.1; simp; omega, fun j hj => ?_⟩
  rw [getD_set hi, if_neg (by omega)]
  exact h.2 j (by omega)
/-- The code's queue. -/
def drvA (gq g : Nat) (q : Vs) : As where
  P F w := ∃ bm low, LowOk low q.hs ∧ (sep (box gq 90 (q.cells g bm low)) (mapA bm q.hs)).P F w
  lt := by
    rintro F w ⟨bm, low, -, h⟩ k hk
    exact (sep _ _).lt h k hk
  keep := by
    rintro F w w' ⟨bm, low, hl, h⟩ hk
    exact ⟨bm, low, hl, (sep _ _).keep h hk⟩
end Go.Proofs.Ytbpgblmhacpjlaa

/-
  How many ids are held; queues of which nothing came back, queues that fill up; no condition.
-/
import Derived.Test.YtbpgblmhacpjlaaVi
namespace Go.Proofs.Ytbpgblmhacpjlaa
open Go.RowKit

/-! how many are held -/
def cnt (hs : List Nat) : Nat := hs.countP fun x => decide (0 < x)
theorem map_getD (hs : List Nat) : (List.range hs.length).map (fun i => hs.getD i 0) = hs := by
  refine List.ext_getElem (by simp) fun i h1 h2 => ?_
  simp [h2]
theorem heldL_cnt (hs : List Nat) : (heldL hs).length = cnt hs := by
  unfold heldL cnt
  rw [← List.countP_eq_length_filter]
  have := List.countP_map (p := fun x => decide (0 < x)) (f := fun i => hs.getD i 0) (l := List.range hs.length)
  rw [map_getD] at this
  rw [this]; rfl
theorem cnt_set : ∀ (l : List Nat) (i n : Nat), i < l.length → cnt (l.set i n) + (if 0 < l.getD i 0 then 1 else 0) = cnt l + (if 0 < n then 1 else 0)
  | [], i, n, h => by simp at h
  | a :: l, 0, n, _ => by
    simp only [cnt, List.set_cons_zero, List.countP_cons, List.getD_cons_zero, decide_eq_true_eq]
    omega
  | a :: l, i + 1, n, h => by
    have := cnt_set l i n (by simpa using h)
    simp only [cnt] at this
    simp only [cnt, List.set_cons_succ, List.countP_cons, List.getD_cons_succ]
    omega
theorem cnt_zero (n : Nat) : cnt (List.replicate n 0) = 0 := by
  unfold cnt
  rw [List.countP_replicate]; simp
theorem held_posted {q : Vs} {n k : Nat} (hq : q.Ok n) (hk : 1 ≤ k) (hf : ¬ q.free < k) : (heldL (q.posted k).hs).length = (heldL q.hs).length + 1 := by
  have hr := post_room hq hk hf
  have := cnt_set q.hs (leastId q.hs) k hr
  rw [least_zero hr] at this
  rw [heldL_cnt, heldL_cnt]
  simp only [Vs.posted]
  simp at this
  rw [if_pos (by omega)] at this
  omega
theorem held_reaped {q : Vs} {id : Nat} (h : 0 < q.hs.getD id 0) : (heldL (q.reaped id).hs).length + 1 = (heldL q.hs).length := by
  have := cnt_set q.hs id 0 (held_lt h)
  rw [if_pos h] at this
  rw [heldL_cnt, heldL_cnt]
  simp only [Vs.reaped]
  simp at this
  omega

/-! noughts -/
theorem deAt_zero {xs : List UInt8} {n : Nat} (h : ∀ j, j < 16 → xs[n + j]? = some 0) : deAt xs n = ⟨0, 0, 0, 0⟩ := by
  have e : cut16 xs n = ⟨(List.replicate 16 (0 : UInt8)).toArray⟩ := by
    unfold cut16
    congr 2
    refine List.ext_getElem? fun j => ?_
    rw [cut_get, List.getElem?_replicate]
    split
    · rename_i hj; exact h j hj
    · rfl
  unfold deAt
  rw [e]
  rfl
theorem noughts_at (n j : Nat) (h : j < n) : (noughts n).data.toList[j]? = some 0 := by
  simp [noughts, h]
/-- the first places of a ring just laid -/
theorem new_zero {xs : List UInt8} {ring size drv dev : Nat} (h1 : ring + size * 16 ≤ xs.length) (h2 : drv + 4 ≤ xs.length) (h3 : dev + 4 ≤ xs.length) (d1 : ring + size * 16 ≤ drv) (d2 : ring + size * 16 ≤ dev) (s : Nat) (hs : s < size) : deAt (newX xs ring size drv dev) (ring + 16 * s) = ⟨0, 0, 0, 0⟩ := by
  have l1 : (over xs ring (noughts (size * 16))).length = xs.length := over_length _ _ _ (by rw [noughts_size]; exact h1)
  have l2 : (over (over xs ring (noughts (size * 16))) drv (noughts 4)).length = xs.length := by rw [over_length _ _ _ (by rw [noughts_size, l1]; exact h2), l1]
  unfold newX
  rw [deAt_off _ _ _ (by rw [noughts_size, l2]; exact h3) _ (by left; omega), deAt_off _ _ _ (by rw [noughts_size, l1]; exact h2) _ (by left; omega)]
  refine deAt_zero fun j hj => ?_
  rw [over_in _ _ _ (by rw [noughts_size]; exact h1), noughts_size, if_pos (by omega)]
  exact noughts_at _ _ (by omega)

/-! one part posted -/
theorem chain_one {xs : List UInt8} {a n : Int} {v : Bool} (h1 : 0 < n) (h2 : 0 ≤ a) (h3 : a + n ≤ xs.length) : chainB xs [⟨a, n, v⟩] = true := by
  unfold chainB chainGo chainGo mayB
  have : (0 ≤ n ∧ 0 ≤ a ∧ a + n ≤ (xs.length : Int)) := ⟨by omega, h2, h3⟩
  simp [h1, this]
theorem flF_top (more wr : Bool) : usedB (flF more wr true) true = false := by
  unfold flF
  rw [usedB_of (flN_rest more wr)]
  rfl
/-- a queue from which nothing came back -/
structure NI (n : Nat) (xs : List UInt8) (q : Vs) : Prop where
  ok : q.Ok xs.length
  len : xs.length = 1024
  ring : q.ring = 0
  size : q.size = n
  ba : q.ba = 0
  bw : q.bw = true
  nw : q.hs.sum < n → q.nw = true
  na : q.na = if q.hs.sum < n then q.hs.sum else 0
  idle : usedB (deAt xs 0).f true = false
theorem NI.reap {n : Nat} {xs : List UInt8} {q : Vs} (h : NI n xs q) : reapC xs q = (0, 0, false, 0, q) := by
  unfold reapC
  rw [h.ring, h.ba, h.bw, h.idle]
  rfl
theorem NI.post {n : Nat} {xs : List UInt8} {q : Vs} (h : NI n xs q) (hn : n ≤ 8) {m : Int} {v : Bool} (h1 : 0 < m) (h2 : m ≤ 64) :
    NI n (postC xs q [⟨600, m, v⟩]).2.2.1 (postC xs q [⟨600, m, v⟩]).2.2.2 ∧ (postC xs q [⟨600, m, v⟩]).2.2.2.since ≤ q.since + 1 := by
  have hc : chainB xs [⟨600, m, v⟩] = true := chain_one h1 (by omega) (by rw [h.len]; omega)
  unfold postC
  rw [if_pos hc]
  have hok := h.ok
  have hfl := free_le hok
  have hs := h.size
  split
  · exact ⟨h, Nat.le_succ _⟩
  · rename_i hf
    have hf : ¬ q.free < 1 := hf
    have hr := post_room hok (Nat.le_refl 1) hf
    have hsum : (q.hs.set (leastId q.hs) 1).sum = q.hs.sum + 1 := by
      have := sum_set q.hs (leastId q.hs) 1 hr
      rw [least_zero hr] at this
      omega
    have hlt : q.hs.sum < n := by omega
    have hna := h.na
    rw [if_pos hlt] at hna
    have hnw := h.nw hlt
    have hl := h.len
    have hp := pAt_le hok (i := 0) (by omega)
    have hpe : pAt q 0 = 16 * q.hs.sum := by unfold pAt; rw [h.ring, stA_zero hok.na, hna]; omega
    refine ⟨⟨?_, ?_, h.ring, h.size, h.ba, h.bw, ?_, ?_, ?_⟩, Nat.le_refl _⟩
    · show (q.posted 1).Ok (putN q _ _ xs 1).length
      rw [putN_length hok 1 (by omega)]
      exact posted_ok hok (Nat.le_refl 1) hf
    · show (putN q _ _ xs 1).length = 1024
      rw [putN_length hok 1 (by omega)]; exact hl
    · intro hl2
      have hl2 : (q.hs.set (leastId q.hs) 1).sum < n := hl2
      show stW q.size q.na 1 q.nw = true
      unfold stW
      rw [hs, hna, if_pos (by omega)]; exact hnw
    · show stA q.size q.na 1 = if (q.hs.set (leastId q.hs) 1).sum < n then (q.hs.set (leastId q.hs) 1).sum else 0
      unfold stA
      rw [hs, hna, hsum]
      split <;> omega
    · show usedB (deAt (over xs (pAt q 0) (encAt q ([⟨600, m, v⟩].map IPt.pt) (leastId q.hs) 0)) 0).f true = false
      by_cases h0 : q.hs.sum = 0
      · rw [hpe, h0]
        have hid : leastId q.hs < q.hs.length := hr
        have hhl := hok.hl
        unfold encAt encB
        have e : (([⟨600, m, v⟩] : List IPt).map IPt.pt).getD 0 noPt = ⟨600, m.toNat, v⟩ := rfl
        rw [e, deAt_on _ _ _ _ _ _ (by omega) (by show 600 < _; omega) (by show m.toNat < _; omega) (by omega) (flF_lt _ _ _), stW_zero _ hok.na, hnw]
        exact flF_top _ _
      · rw [deAt_off _ _ _ (by rw [encAt_size]; exact hp) _ (by left; omega)]
        exact h.idle
theorem ni_new {xs : List UInt8} (hx : xs.length = 1024) {n : Nat} (h1 : 1 ≤ n) (h2 : n ≤ 8) (hok : (newV 0 (n : Int) 512 516).Ok xs.length) : NI n (newX xs 0 n 512 516) (newV 0 (n : Int) 512 516) := by
  have hlen : (newX xs 0 n 512 516).length = xs.length := newX_length (by omega) (by omega) (by omega)
  refine ⟨by rw [hlen]; exact hok, by rw [hlen]; exact hx, rfl, rfl, rfl, rfl, fun _ => rfl, ?_, ?_⟩
  · show 0 = if (List.replicate n 0).sum < n then (List.replicate n 0).sum else 0
    rw [sum_zeros]; split <;> rfl
  · have := new_zero (xs := xs) (ring := 0) (size := n) (drv := 512) (dev := 516) (by omega) (by omega) (by omega) (by omega) (by omega) 0 (by omega)
    rw [show 0 + 16 * 0 = 0 from rfl] at this
    rw [this]; rfl

/-! a queue that fills up -/
structure FI (n ids : Nat) (xs : List UInt8) (q : Vs) : Prop where
  ok : q.Ok xs.length
  len : xs.length = 1024
  size : q.size = n
  pos : ∀ i, i < ids → 0 < q.hs.getD i 0
  rest : ∀ i, ids ≤ i → q.hs.getD i 0 = 0
theorem FI.le {n ids : Nat} {xs : List UInt8} {q : Vs} (h : FI n ids xs q) : ids ≤ n := by
  rcases Nat.lt_or_ge n ids with h1 | h1
  · have := held_lt (h.pos n h1)
    have := h.ok.hl; have := h.size
    omega
  · exact h1
theorem FI.least {n ids : Nat} {xs : List UInt8} {q : Vs} (h : FI n ids xs q) (hr : leastId q.hs < q.hs.length) : leastId q.hs = ids := by
  have hz := least_zero hr
  rcases Nat.lt_trichotomy (leastId q.hs) ids with h1 | h1 | h1
  · have := h.pos _ h1; omega
  · exact h1
  · have := least_pos h1
    rw [h.rest ids (Nat.le_refl _)] at this; omega
theorem FI.held {n ids : Nat} {xs : List UInt8} {q : Vs} (h : FI n ids xs q) : (heldL q.hs).length = ids := by
  have hp : (heldL q.hs).Perm (List.range ids) := (List.perm_ext_iff_of_nodup (heldL_nodup _) List.nodup_range).2 fun i => by
    rw [mem_heldL, List.mem_range]
    rcases Nat.lt_or_ge i ids with h1 | h1
    · exact ⟨fun _ => h1, fun _ => h.pos i h1⟩
    · rw [h.rest i h1]; omega
  have := hp.length_eq
  simpa using this
/-- so many parts of one byte each -/
def ones6 (k : Nat) : List IPt := (List.range k).map fun j : Nat => ⟨600 + (j : Int), 1, false⟩
theorem ones6_length (k : Nat) : (ones6 k).length = k := by simp [ones6]
theorem ones6_go {xs : List UInt8} (hx : xs.length = 1024) : ∀ (k j : Nat), j + k ≤ 10 → chainGo xs ((List.range' j k).map fun j : Nat => (⟨600 + (j : Int), 1, false⟩ : IPt)) false = true
  | 0, j, _ => rfl
  | k + 1, j, h => by
    rw [List.range'_succ, List.map_cons]
    unfold chainGo mayB
    have e : (0 : Int) ≤ 1 ∧ (0 : Int) ≤ 600 + (j : Int) ∧ 600 + (j : Int) + 1 ≤ (xs.length : Int) := by rw [hx]; omega
    rw [decide_eq_true e]
    simp only [decide_true, Bool.not_false, Bool.true_or, Bool.true_and, Int.zero_lt_one]
    exact ones6_go hx k (j + 1) (by omega)
theorem ones6_chain {xs : List UInt8} (hx : xs.length = 1024) {k : Nat} (h1 : 1 ≤ k) (h2 : k ≤ 4) : chainB xs (ones6 k) = true := by
  unfold chainB
  rw [ones6_length, decide_eq_true ⟨h1, by omega⟩]
  unfold ones6
  rw [List.range_eq_range']
  exact ones6_go hx k 0 (by omega)
theorem FI.post {n ids : Nat} {xs : List UInt8} {q : Vs} (h : FI n ids xs q) {k : Nat} (h1 : 1 ≤ k) (h2 : k ≤ 4) :
    (k ≤ q.free → (postC xs q (ones6 k)).1 = (ids : Int) ∧ (postC xs q (ones6 k)).2.1 = 0 ∧ FI n (ids + 1) (postC xs q (ones6 k)).2.2.1 (postC xs q (ones6 k)).2.2.2 ∧ (postC xs q (ones6 k)).2.2.2.free = q.free - k ∧ (postC xs q (ones6 k)).2.2.2.since ≤ q.since + 4) ∧
    (¬ k ≤ q.free → postC xs q (ones6 k) = (0, 151, xs, q)) := by
  have hc := ones6_chain h.len h1 h2
  have hl := ones6_length k
  have hfl := free_le h.ok
  refine ⟨fun hk => ?_, fun hk => ?_⟩
  · have hf : ¬ q.free < k := by omega
    have hr := post_room h.ok h1 hf
    have hle := h.least hr
    have e : postC xs q (ones6 k) = ((leastId q.hs : Int), 0, putN q ((ones6 k).map IPt.pt) (leastId q.hs) xs (ones6 k).length, q.posted (ones6 k).length) := by
      unfold postC
      rw [if_pos hc, hl, if_neg hf]
    rw [e, hl]
    refine ⟨by rw [hle], rfl, ⟨?_, ?_, h.size, fun i hi => ?_, fun i hi => ?_⟩, posted_free h.ok h1 hf, by show q.since + k ≤ _; omega⟩
    · show (q.posted k).Ok (putN q _ _ xs k).length
      rw [putN_length h.ok k (by omega)]
      exact posted_ok h.ok h1 hf
    · show (putN q _ _ xs k).length = 1024
      rw [putN_length h.ok k (by omega)]; exact h.len
    · show 0 < (q.hs.set (leastId q.hs) k).getD i 0
      rw [getD_set hr]
      split
      · omega
      · exact h.pos i (by omega)
    · show (q.hs.set (leastId q.hs) k).getD i 0 = 0
      rw [getD_set hr, if_neg (by omega)]
      exact h.rest i (by omega)
  · unfold postC
    rw [if_pos hc, hl, if_pos (by omega)]
theorem fi_new {xs : List UInt8} (hx : xs.length = 1024) {n : Nat} (h2 : n ≤ 8) (hok : (newV 0 (n : Int) 512 516).Ok xs.length) : FI n 0 (newX xs 0 n 512 516) (newV 0 (n : Int) 512 516) ∧ (newV 0 (n : Int) 512 516).free = n := by
  have hlen : (newX xs 0 n 512 516).length = xs.length := newX_length (by omega) (by omega) (by omega)
  refine ⟨⟨by rw [hlen]; exact hok, by rw [hlen]; exact hx, rfl, fun i hi => by omega, fun i _ => ?_⟩, ?_⟩
  · show (List.replicate n 0).getD i 0 = 0
    rw [List.getD_eq_getElem?_getD, List.getElem?_replicate]
    split <;> rfl
  · show n - (List.replicate n 0).sum = n
    rw [sum_zeros]; omega
end Go.Proofs.Ytbpgblmhacpjlaa

/-
  What Post and Reap answer, as functions: the bytes, the numbers; no condition.
-/
import Derived.Test.YtbpgblmhacpjlaaOv
import Derived.Test.YtbpgblmhacpjlaaVd
import Derived.Test.YtbpgblmhacpjlaaDus
namespace Go.Proofs.Ytbpgblmhacpjlaa
open Go.RowKit

def IPt.pt (p : IPt) : Pt := ⟨p.at_.toNat, p.n.toNat, p.wr⟩
def noPt : Pt := ⟨0, 0, false⟩
/-- where a chain's descriptor i lies; its bytes -/
def pAt (q : Vs) (i : Nat) : Nat := q.ring + 16 * stA q.size q.na i
def encAt (q : Vs) (l : List Pt) (id i : Nat) : ByteArray := encB (l.getD i noPt).at_ (l.getD i noPt).n id (decide (i + 1 < l.length)) (l.getD i noPt).wr (stW q.size q.na i q.nw)
theorem encAt_size (q : Vs) (l : List Pt) (id i : Nat) : (encAt q l id i).size = 16 := encB_size _ _ _ _ _ _
theorem pAt_le {q : Vs} {n : Nat} (hq : q.Ok n) {i : Nat} (hi : i ≤ q.size) : pAt q i + 16 ≤ n := by
  have := hq.r
  have := stA_lt hq.na hi
  unfold pAt; omega
theorem pAt_ne {q : Vs} {i j : Nat} (hi : i < q.size) (hj : j < q.size) (h : i ≠ j) : pAt q i + 16 ≤ pAt q j ∨ pAt q j + 16 ≤ pAt q i := by
  have : stA q.size q.na i ≠ stA q.size q.na j := fun e => h (stA_inj hi hj e)
  unfold pAt; omega
/-- the first k descriptors written -/
def putN (q : Vs) (l : List Pt) (id : Nat) (xs : List UInt8) : Nat → List UInt8
  | 0 => xs
  | k + 1 => over (putN q l id xs k) (pAt q k) (encAt q l id k)
/-- .. as the code goes: the first one's flags are still what they were -/
def putM (q : Vs) (l : List Pt) (id : Nat) (xs : List UInt8) : Nat → List UInt8
  | 0 => over xs (pAt q 0) ((encAt q l id 0).extract 0 14)
  | k + 1 => over (putM q l id xs k) (pAt q (k + 1)) (encAt q l id (k + 1))
theorem ext14 (s : ByteArray) (h : s.size = 16) : (s.extract 0 14).size = 14 ∧ (s.extract 14 16).size = 2 := by
  rw [ByteArray.size_extract, ByteArray.size_extract]; omega
section
variable {q : Vs} {l : List Pt} {id : Nat} {xs : List UInt8}
theorem putN_length (hq : q.Ok xs.length) : ∀ k, k ≤ q.size → (putN q l id xs k).length = xs.length
  | 0, _ => rfl
  | k + 1, h => by
    have h1 := putN_length hq k (by omega)
    have h2 := pAt_le hq (i := k) (by omega)
    rw [putN, over_length _ _ _ (by rw [h1, encAt_size]; exact h2), h1]
theorem putM_length (hq : q.Ok xs.length) : ∀ k, k < q.size → (putM q l id xs k).length = xs.length
  | 0, h => by
    have h2 := pAt_le hq (i := 0) (by omega)
    have h3 := (ext14 _ (encAt_size q l id 0)).1
    rw [putM, over_length _ _ _ (by rw [h3]; omega)]
  | k + 1, h => by
    have h1 := putM_length hq k (by omega)
    have h2 := pAt_le hq (i := k + 1) (by omega)
    rw [putM, over_length _ _ _ (by rw [h1, encAt_size]; exact h2), h1]
theorem putM_done (hq : q.Ok xs.length) : ∀ k, k < q.size → over (putM q l id xs k) (pAt q 0 + 14) ((encAt q l id 0).extract 14 16) = putN q l id xs (k + 1)
  | 0, h => by
    have h2 := pAt_le hq (i := 0) (by omega)
    have h3 := encAt_size q l id 0
    have := over_join xs (pAt q 0) 14 (encAt q l id 0) (by omega) (by omega)
    rw [h3] at this
    rw [putM, this]; rfl
  | k + 1, h => by
    have h1 := putM_length (l := l) (id := id) hq k (by omega)
    have h2 := pAt_le hq (i := k + 1) (by omega)
    have h0 := pAt_le hq (i := 0) (by omega)
    have h3 := (ext14 _ (encAt_size q l id 0)).2
    have h4 := encAt_size q l id (k + 1)
    have h5 := pAt_ne (q := q) (i := 0) (j := k + 1) (by omega) h (by omega)
    rw [putM, over_comm _ _ _ _ _ (by omega) (by omega) (by omega), putM_done hq k (by omega)]; rfl
end
/-- the queue behind a chain of n parts that was posted -/
def Vs.posted (q : Vs) (n : Nat) : Vs := { q with na := stA q.size q.na n, nw := stW q.size q.na n q.nw, since := q.since + n, hs := q.hs.set (leastId q.hs) n }
/-- Post: the id, the error, the bytes, the queue -/
def postC (xs : List UInt8) (q : Vs) (l : List IPt) : Int × Int × List UInt8 × Vs :=
  if chainB xs l then
    if q.free < l.length then (0, 151, xs, q)
    else ((leastId q.hs : Int), 0, putN q (l.map IPt.pt) (leastId q.hs) xs l.length, q.posted l.length)
  else (0, 150, xs, q)
theorem chain_len {xs : List UInt8} {l : List IPt} (h : chainB xs l = true) : 1 ≤ l.length ∧ l.length ≤ 64 := by
  unfold chainB at h; simp at h; omega
theorem free_le {q : Vs} {n : Nat} (hq : q.Ok n) : q.free ≤ q.size ∧ q.free + q.hs.sum = q.size := by
  have := hq.sum; unfold Vs.free; omega
theorem post_room {q : Vs} {n k : Nat} (hq : q.Ok n) (hk : 1 ≤ k) (hf : ¬ q.free < k) : leastId q.hs < q.hs.length := by
  have := free_le hq
  have := hq.hl
  exact least_lt (by omega)
theorem posted_ok {q : Vs} {n k : Nat} (hq : q.Ok n) (hk : 1 ≤ k) (hf : ¬ q.free < k) : (q.posted k).Ok n := by
  have h1 := free_le hq
  have h2 := hq.na
  have hr := post_room hq hk hf
  have h3 := sum_set q.hs (leastId q.hs) k hr
  rw [least_zero hr] at h3
  exact ⟨hq.s1, hq.s2, hq.r, hq.drv, hq.dev, stA_lt h2 (by omega), hq.ba, hq.ta, by simp [Vs.posted, hq.hl], by simp only [Vs.posted]; omega⟩
theorem posted_free {q : Vs} {n k : Nat} (hq : q.Ok n) (hk : 1 ≤ k) (hf : ¬ q.free < k) : (q.posted k).free = q.free - k := by
  have h1 := free_le hq
  have hr := post_room hq hk hf
  have h3 := sum_set q.hs (leastId q.hs) k hr
  rw [least_zero hr] at h3
  simp only [Vs.free, Vs.posted]; omega
theorem postC_ok {xs : List UInt8} {q : Vs} (hq : q.Ok xs.length) (l : List IPt) : (postC xs q l).2.2.1.length = xs.length ∧ (postC xs q l).2.2.2.Ok xs.length := by
  unfold postC
  split
  · rename_i hc
    have hl := chain_len hc
    split
    · exact ⟨rfl, hq⟩
    · rename_i hf
      have h1 := free_le hq
      exact ⟨putN_length hq _ (by omega), posted_ok hq hl.1 hf⟩
  · exact ⟨rfl, hq⟩

/-! Reap -/
def usedB (f : Nat) (w : Bool) : Bool := (f / 128 % 2 == 1) == w && (f / 32768 % 2 == 1) == w
theorem usedB_of {R : Nat} (h : Rest R) (a u w : Bool) : usedB (R + mk a u) w = (a == w && u == w) := by
  have h1 := h.1
  have h2 := h.2.1
  have h3 := h.2.2
  unfold usedB mk one
  have e1 : (R + (128 * (if a = true then 1 else 0) + 32768 * (if u = true then 1 else 0))) / 128 % 2 = if a = true then 1 else 0 := by split <;> split <;> omega
  have e2 : (R + (128 * (if a = true then 1 else 0) + 32768 * (if u = true then 1 else 0))) / 32768 % 2 = if u = true then 1 else 0 := by split <;> split <;> omega
  rw [e1, e2]
  cases a <;> cases u <;> rfl
def Vs.reaped (q : Vs) (id : Nat) : Vs := { q with ba := stA q.size q.ba (q.hs.getD id 0), bw := stW q.size q.ba (q.hs.getD id 0) q.bw, hs := q.hs.set id 0 }
/-- Reap: the id, how many bytes, is there one, the error, the queue -/
def reapC (xs : List UInt8) (q : Vs) : Int × Int × Bool × Int × Vs :=
  if usedB (deAt xs (q.ring + 16 * q.ba)).f q.bw then
    if 0 < q.hs.getD (deAt xs (q.ring + 16 * q.ba)).id 0 then (((deAt xs (q.ring + 16 * q.ba)).id : Int), ((deAt xs (q.ring + 16 * q.ba)).n : Int), true, 0, q.reaped (deAt xs (q.ring + 16 * q.ba)).id)
    else (0, 0, false, 150, q)
  else (0, 0, false, 0, q)
theorem held_lt {hs : List Nat} {i : Nat} (h : 0 < hs.getD i 0) : i < hs.length := by
  rcases Nat.lt_or_ge i hs.length with h1 | h1
  · exact h1
  · rw [List.getD_eq_getElem?_getD, List.getElem?_eq_none h1] at h; simp at h
theorem reaped_ok {q : Vs} {n id : Nat} (hq : q.Ok n) (h : 0 < q.hs.getD id 0) : (q.reaped id).Ok n := by
  have h1 := le_sum q.hs id
  have h2 := hq.sum
  have h3 := sum_set q.hs id 0 (held_lt h)
  exact ⟨hq.s1, hq.s2, hq.r, hq.drv, hq.dev, hq.na, stA_lt hq.ba (by omega), hq.ta, by simp [Vs.reaped, hq.hl], by simp only [Vs.reaped]; omega⟩
theorem reapC_ok {xs : List UInt8} {q : Vs} {n : Nat} (hq : q.Ok n) : (reapC xs q).2.2.2.2.Ok n := by
  unfold reapC
  split
  · split
    · rename_i h; exact reaped_ok hq h
    · exact hq
  · exact hq
theorem used_f (f : Nat) (h : f < 65536) (v : Bool) (w : World) :
    Calls Try.prog 42 #[.int .i64 (f : Int), .bool v] w fun e w' => e = .returned (.bool (usedB f v)) ∧ w = w' := by
  obtain ⟨a, u, R, hR, rfl⟩ := split f h
  rw [usedB_of hR]
  exact used_any R hR a u v w
end Go.Proofs.Ytbpgblmhacpjlaa

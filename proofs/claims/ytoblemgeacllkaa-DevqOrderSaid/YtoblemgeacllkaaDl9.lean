/-
  A right driver's round: each call of the law's, and what it leaves; no condition beyond the ring's size.
-/
import Derived.Test.YtoblemgeacllkaaDm2
import Derived.Test.YtoblemgeacllkaaDl7
import Derived.Test.YtoblemgeacllkaaDfw
namespace Go.Proofs.Ytoblemgeacllkaa
open Go.RowKit

def IntsAt (A : Option Addr) (n : Nat) (w : World) : Prop := 0 < n → ∃ b off, A = some ⟨b, off, none⟩ ∧ b < w.heap.size ∧ ∀ i, i < n → ∃ z : Int, w.cell? ⟨b, off + i, none⟩ = some (.int .i64 z)
theorem IntsAt.cell {A : Option Addr} {n : Nat} {w w' : World} (h : IntsAt A n w) (hb : Below w.heap.size w w') (i : Nat) (hi : i < n) : ∃ b off, ∃ z : Int, A = some ⟨b, off, none⟩ ∧ b < w.heap.size ∧ w'.cell? ⟨b, off + i, none⟩ = some (.int .i64 z) := by
  obtain ⟨b, off, hA, hlt, hc⟩ := h (by omega)
  obtain ⟨z, hz⟩ := hc i hi
  exact ⟨b, off, z, hA, hlt, (hb.cell (p := ⟨b, off + i, none⟩) hlt).trans hz⟩
theorem lay_ord (n : Nat) (h1 : 1 ≤ n) (h2 : n ≤ 32) : layB (List.replicate 2048 0) 0 n 1024 1028 = true := by
  unfold layB fitsB mayB
  simp only [List.length_replicate, Bool.and_eq_true, decide_eq_true_eq, beq_iff_eq]
  have e1 : Int.tmod 0 16 = 0 := by decide
  have e2 : Int.tmod 1024 4 = 0 := by decide
  have e3 : Int.tmod 1028 4 = 0 := by decide
  rw [e1, e2, e3]
  refine ⟨?_, ?_⟩ <;> omega
theorem laid_ord (n : Nat) (h1 : 1 ≤ n) (h2 : n ≤ 32) (w : World) : Calls Try.prog 7 #[.agg #[.int .i64 2048, .int .i64 0, .int .i64 (n : Int), .int .i64 1024, .int .i64 1028, .slice none 0 0]] w fun e w' =>
    ∃ gq g gb gx, e = .returned (.tuple #[.pointer (some ⟨g, 0, none⟩), .pointer (some ⟨gq, 0, none⟩), .pointer (some ⟨gx, 0, none⟩), .bool true]) ∧ Ow w gq g gb (List.replicate 2048 0) (Dq n 0 true 0 true 0) w' := by
  have h := laid_good 2048 0 n 1024 1028 (.slice none 0 0) (by rw [show bytesN 2048 = 2048 from rfl]; exact lay_ord n h1 h2) w
  exact h
section
variable {w0 : World} {gq g gb n p i k j si V : Nat} {xs : List UInt8} {v : Bool} {W : World}
theorem ord_write (h : Ow w0 gq g gb (wrC xs n p v i k j) (Dq n p v 0 true si) W) (hx : xs.length = 2048) (hn : n ≤ 32) (hp : p < n) (hj : j < n) (a L F b : Nat) (S : ByteArray)
    (ha : 1032 + 16 * j = a) (hL : 1 + i % 9 = L) (hF : drvF n p v k j = F) (hS : desB a L i F = S) (hb : 16 * stA n p j = b) :
    Calls Try.prog 9 #[.pointer (some ⟨g, 0, none⟩), .int .i64 (b : Int), .string S] W fun e W' => e = .returned (.int .i64 0) ∧ Ow w0 gq g gb (wrC xs n p v i k (j + 1)) (Dq n p v 0 true si) W' := by
  subst ha hL hF hS hb
  have hs := desB_size (1032 + 16 * j) (1 + i % 9) i (drvF n p v k j)
  have hl := wrC_length (w := v) (i := i) (k := k) hx hn hp j (by omega)
  have h1 := stA_lt (k := j) hp (by omega)
  have hr : (0 : Int) ≤ ((16 * stA n p j : Nat) : Int) ∧ ((16 * stA n p j : Nat) : Int) + ((desB (1032 + 16 * j) (1 + i % 9) i (drvF n p v k j)).size : Int) ≤ ((wrC xs n p v i k j).length : Int) := by
    rw [hs, hl]; omega
  have hq := h.writeQ ((16 * stA n p j : Nat) : Int) (desB (1032 + 16 * j) (1 + i % 9) i (drvF n p v k j)) (by rw [hs]; decide)
  unfold wrE wrX at hq
  rw [if_pos hr, if_pos hr] at hq
  exact hq.mono fun e W' ⟨he, ho, _⟩ => ⟨he, ho⟩
theorem ord_next (h : Ow w0 gq g gb (wrC xs n p v i k k) (Dq n p v 0 true si) W) (hx : xs.length = 2048) (hn : n ≤ 32) (hp : p < n) (hi : i ≤ 65535) (h1 : 1 ≤ k) (h4 : k ≤ 4) (hk : k ≤ n) :
    Calls Try.prog 11 #[.pointer (some ⟨gq, 0, none⟩)] W fun e W' => ∃ A cap, e = .returned (.tuple #[.agg #[.int .i64 (i : Int), .int .i64 (k : Int), .slice A k cap], .bool true, .int .i64 0]) ∧ PtsAt A ((List.range' 0 k).map (drvPt i)) W' ∧ Ow w0 gq g gb (wrC xs n p v i k k) (Dq1 n p v 0 true si k) W' := by
  have hl := wrC_length (w := v) (i := i) (k := k) hx hn hp k hk
  have hz : ((List.range' 0 k).map (drvPt i)).length = k := by simp
  refine (h.nextQ (by rw [hl]; exact Dq_ok hn hp 0 true si (by omega)) _ (next_drv hx hn hp hi h1 h4 hk 0 true si)).mono ?_
  rintro e W' ⟨A, cap, he, ho, hO, -⟩
  have hP := PtsAt.of_own (l := (List.range' 0 k).map (drvPt i)) ho
  refine ⟨A, cap, ?_, hP, hO⟩
  rw [he]
  simp only [hz]
theorem ord_pt {A : Option Addr} (h : PtsAt A ((List.range' 0 k).map (drvPt i)) W) (hj : j < k) : ∃ gl, A = some ⟨gl, 0, none⟩ ∧ W.cell? ⟨gl, j * 3, none⟩ = some (.int .i64 ((1032 + 16 * j : Nat) : Int)) ∧ W.cell? ⟨gl, j * 3 + 1, none⟩ = some (.int .i64 ((1 + i % 9 : Nat) : Int)) ∧ W.cell? ⟨gl, j * 3 + 2, none⟩ = some (.bool (decide (0 < j))) := by
  obtain ⟨gl, hA, a, b, c⟩ := h.pt j (by simpa using hj)
  have e : ((List.range' 0 k).map (drvPt i))[j]'(by simpa using hj) = drvPt i j := by simp
  rw [e] at a b c
  exact ⟨gl, hA, a, b, c⟩
theorem ord_done (h : Ow w0 gq g gb (wrC xs n p v i k k) (Dq1 n p v 0 true si k) W) (hx : xs.length = 2048) (hn : n ≤ 32) (hp : p < n) (hi : i ≤ 65535) (h1 : 1 ≤ k) (hk : k ≤ n) (hs : si ≤ 1000) (hV : V ≤ 65535) :
    Calls Try.prog 14 #[.pointer (some ⟨gq, 0, none⟩), .int .i64 (i : Int), .int .i64 (k : Int), .int .i64 (V : Int)] W fun e W' => e = .returned (.int .i64 0) ∧ Ow w0 gq g gb (usedX (wrC xs n p v i k k) (Dq1 n p v 0 true si k) i V) (Dq n (stA n p k) (stW n p k v) 0 true (si + k)) W' ∧ Far W W' := by
  have hl := wrC_length (w := v) (i := i) (k := k) hx hn hp k hk
  exact h.doneQ (by rw [hl]; exact Dq1_ok hn hp hk 0 true si (by omega)) (by show si ≤ _; omega) i k V _ (done_drv hi h1 0 true si V hV)
theorem ord_out (h : Ow w0 gq g gb xs (Dq n p v 0 true si) W) : Calls Try.prog 26 #[.pointer (some ⟨gq, 0, none⟩)] W fun e W' => e = .returned (.int .i64 0) ∧ W = W' := h.outQ
theorem ord_out1 (h : Ow w0 gq g gb xs (Dq1 n p v 0 true si k) W) : Calls Try.prog 26 #[.pointer (some ⟨gq, 0, none⟩)] W fun e W' => e = .returned (.int .i64 (k : Int)) ∧ W = W' := h.outQ
theorem ord_broken (h : Ow w0 gq g gb xs (Dq n p v 0 true si) W) : Calls Try.prog 25 #[.pointer (some ⟨gq, 0, none⟩)] W fun e W' => e = .returned (.bool false) ∧ W = W' := h.brokenQ
def usedF (v : Bool) (V : Nat) : Nat := (if 0 < V then 2 else 0) + mk v (v == true)
theorem ord_load {Y : List UInt8} {Q : Qs} (h : Ow w0 gq g gb Y Q W) (hY : Y = usedX (wrC xs n p v i k k) (Dq1 n p v 0 true si k) i V) (hx : xs.length = 2048) (hn : n ≤ 32) (hp : p < n) (hk : k ≤ n) (b F : Nat) (hb : 16 * p + 14 = b) (hF : usedF v V = F) :
    Calls Try.prog 30 #[.pointer (some ⟨g, 0, none⟩), .int .i64 (b : Int), .int .i64 2] W fun e W' => e = .returned (.tuple #[.int .u64 (F : Int), .int .i64 0]) ∧ Ow w0 gq g gb Y Q W' := by
  subst hb hF
  have hl := wrC_length (w := v) (i := i) (k := k) hx hn hp k hk
  have hq : (Dq1 n p v 0 true si k).Ok (wrC xs n p v i k k).length := by rw [hl]; exact Dq1_ok hn hp hk 0 true si (by omega)
  have hul := usedX_length (wrC xs n p v i k k) (Dq1 n p v 0 true si k) i V hq
  have hv := used_val (wrC xs n p v i k k) (Dq1 n p v 0 true si k) i V hq
  rw [show (Dq1 n p v 0 true si k).ring + 16 * (Dq1 n p v 0 true si k).ba + 14 = 16 * p + 14 by show 0 + 16 * p + 14 = _; omega] at hv
  have := h.loadQ (16 * p + 14) 2 (.inr (.inl rfl)) (by rw [hY, hul, hl]; omega) (usedF v V) (by rw [hY, hv]; rfl)
  exact this.mono fun e W' ⟨he, ho, _⟩ => ⟨he, ho⟩
theorem used_is (v : Bool) (V F : Nat) (hF : usedF v V = F) (W : World) : Calls Try.prog 31 #[.int .i64 (F : Int), .bool v] W fun e W' => e = .returned (.bool true) ∧ W = W' := by
  subst hF
  have hR : Rest (if 0 < V then 2 else 0) := by split <;> exact ⟨by decide, by decide, by decide⟩
  have := rused_any _ hR v (v == true) v W
  rw [show (v == v && (v == true) == v) = true by cases v <;> rfl] at this
  exact this
theorem usedF_and (v : Bool) (V F : Nat) (hF : usedF v V = F) : bits .and .u64 (F : Int) 2 = if 0 < V then 2 else 0 := by
  subst hF
  unfold usedF mk one
  by_cases h : 0 < V
  · rw [if_pos h]; cases v <;> simp [h] <;> decide
  · rw [if_neg h]; cases v <;> simp [h] <;> decide
theorem usedF_lt (v : Bool) (V F : Nat) (hF : usedF v V = F) : F < 65536 := by
  subst hF
  unfold usedF mk one
  by_cases h : 0 < V <;> cases v <;> simp [h]
theorem ord_idle (h : Ow w0 gq g gb xs (Dq n p v 0 true si) W) (hx : xs.length = 2048) (hn : n ≤ 32) (hp : p < n) (hI : Idle xs n p v) :
    Calls Try.prog 11 #[.pointer (some ⟨gq, 0, none⟩)] W fun e W' => ∃ A cap, e = .returned (.tuple #[.agg #[.int .i64 0, .int .i64 0, .slice A 0 cap], .bool false, .int .i64 0]) ∧ Ow w0 gq g gb xs (Dq n p v 0 true si) W' :=
  (h.nextQ (by rw [hx]; exact Dq_ok hn hp 0 true si (by omega)) _ (next_idle hI hp 0 true si)).mono fun _ _ ⟨A, cap, he, _, ho, _⟩ => ⟨A, cap, he, ho⟩
end
theorem drv_mark (R : Nat) (hR : Rest R) (ro : Bool) (F : Nat) (hF : R + mk ro (ro == false) = F) (W : World) : Calls Try.prog 28 #[.int .i64 (R : Int), .bool ro, .bool false] W fun e W' => e = .returned (.int .i64 (F : Int)) ∧ W = W' := by
  subst hF
  exact rmark_any R hR false false ro false W
end Go.Proofs.Ytoblemgeacllkaa

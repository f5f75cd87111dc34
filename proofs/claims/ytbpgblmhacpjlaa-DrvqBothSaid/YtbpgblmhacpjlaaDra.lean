/-
  The document's memory: its block, its log; what keeps it; May; no condition.
-/
import Derived.Test.YtbpgblmhacpjlaaDr0
namespace Go.Proofs.Ytbpgblmhacpjlaa
open Go.RowKit

/-- The document's memory behind a pointer: its block, its log's value, its bytes, its log. -/
structure Mr (B gm : Nat) (lv : Value) (xs : List UInt8) (lg : List Acc) (w : World) : Prop where
  hB : B ≤ gm
  blk : ∃ ag : Int, Blk w gm 116 #[.string ⟨xs.toArray⟩, .int .i64 ag, lv]
  log : w.ownsRow B 141 4 lv lg.length (logCells lg)
  nil : lg = [] → lv = .slice none 0 0
  len : xs.length ≤ 1048576
section
variable {B gm : Nat} {lv : Value} {xs : List UInt8} {lg : List Acc} {w w' : World}
theorem Mr.lt (h : Mr B gm lv xs lg w) : gm < w.heap.size := by obtain ⟨ag, hb⟩ := h.blk; exact hb.lt
theorem Mr.c0 (h : Mr B gm lv xs lg w) : w.cell? ⟨gm, 0, none⟩ = some (.string ⟨xs.toArray⟩) := by obtain ⟨ag, hb⟩ := h.blk; exact hb.cell 0
theorem Mr.kept (h : Mr B gm lv xs lg w) (h1 : w'.heap[gm]? = w.heap[gm]?) (h2 : ∀ k, lv.ownBlock = some k → w'.heap[k]? = w.heap[k]?) : Mr B gm lv xs lg w' := by
  obtain ⟨ag, hb⟩ := h.blk
  exact ⟨h.hB, ⟨ag, hb.same h1⟩, own_same h.log h2, h.nil, h.len⟩
theorem Mr.below (h : Mr B gm lv xs lg w) (hb : Below w.heap.size w w') : Mr B gm lv xs lg w' := h.kept (hb.block _ h.lt) (fun k hk => hb.block k (h.log.lt k hk).2)
/-- what a call on it leaves: it, with a log that is its own; nothing else that was there has turned -/
def Rnoted (B gm : Nat) (lv : Value) (xs : List UInt8) (lg : List Acc) (w w' : World) : Prop :=
  ∃ lv', Mr B gm lv' xs lg w' ∧ (w'.os = w.os ∧ w'.tape = w.tape ∧ w'.output = w.output ∧ w.heap.size ≤ w'.heap.size ∧ ∀ k, k < w.heap.size → k ≠ gm → w'.heap[k]? = w.heap[k]?) ∧ ∀ k, lv'.ownBlock = some k → lv.ownBlock = some k ∨ w.heap.size ≤ k
set_option maxRecDepth 100000 in
theorem rmay_yes (h : Mr B gm lv xs lg w) (a n : Int) (h0 : 0 ≤ n) (h1 : 0 ≤ a) (h2 : a + n ≤ xs.length) :
    Calls Try.prog 73 #[.pointer (some ⟨gm, 0, none⟩), .int .i64 a, .int .i64 n] w fun e w' => e = .returned (.bool true) ∧ w = w' := by
  have hc := h.c0
  have hl := h.len
  obtain ⟨s, hs⟩ : ∃ s : ByteArray, (⟨xs.toArray⟩ : ByteArray) = s := ⟨_, rfl⟩
  have hz : s.size = xs.length := by rw [← hs]; show xs.toArray.size = _; simp
  rw [hs] at hc
  have h3 : n ≤ (s.size : Int) := by omega
  have h4 : a ≤ (s.size : Int) - n := by omega
  have hb : (s.size : Int) ≤ 1048576 := by omega
  clear h hs hz hl h2
  go_enter Try.func73, Try.ntmps73
  go_wp2
  go_ret
  exact ⟨rfl, rfl⟩
set_option maxRecDepth 100000 in
theorem rmay_no (h : Mr B gm lv xs lg w) (a n : Int) (hno : ¬ (0 ≤ n ∧ 0 ≤ a ∧ a + n ≤ xs.length)) :
    Calls Try.prog 73 #[.pointer (some ⟨gm, 0, none⟩), .int .i64 a, .int .i64 n] w fun e w' => e = .returned (.bool false) ∧ w = w' := by
  have hc := h.c0
  have hl := h.len
  obtain ⟨s, hs⟩ : ∃ s : ByteArray, (⟨xs.toArray⟩ : ByteArray) = s := ⟨_, rfl⟩
  have hz : s.size = xs.length := by rw [← hs]; show xs.toArray.size = _; simp
  rw [hs] at hc
  have hb : (s.size : Int) ≤ 1048576 := by omega
  by_cases h1 : 0 ≤ a
  · by_cases h0 : 0 ≤ n
    · by_cases h3 : n ≤ (s.size : Int)
      · have h4 : (s.size : Int) - n < a := by omega
        clear h hs hz hl hno
        go_enter Try.func73, Try.ntmps73
        go_wp2
        go_ret
        exact ⟨ret_bool (decide_eq_false (by omega)), rfl⟩
      · have h4 : (s.size : Int) < n := by omega
        clear h hs hz hl hno
        go_enter Try.func73, Try.ntmps73
        go_wp2
        go_ret
        exact ⟨rfl, rfl⟩
    · clear h hs hz hl hno hb
      go_enter Try.func73, Try.ntmps73
      go_wp2
      go_ret
      exact ⟨rfl, rfl⟩
  · clear h hs hz hl hno hb
    go_enter Try.func73, Try.ntmps73
    go_wp2
    go_ret
    exact ⟨rfl, rfl⟩
theorem rmay_any (h : Mr B gm lv xs lg w) (a n : Int) :
    Calls Try.prog 73 #[.pointer (some ⟨gm, 0, none⟩), .int .i64 a, .int .i64 n] w fun e w' => e = .returned (.bool (decide (0 ≤ n ∧ 0 ≤ a ∧ a + n ≤ xs.length))) ∧ w = w' := by
  by_cases k : 0 ≤ n ∧ 0 ≤ a ∧ a + n ≤ xs.length
  · rw [decide_eq_true k]; exact rmay_yes h a n k.1 k.2.1 k.2.2
  · rw [decide_eq_false k]; exact rmay_no h a n k
theorem rnote_none (h : Mr B gm lv xs lg w) (hl : lg.length ≤ 4000) (a : Int) (wr : Bool) :
    Calls Try.prog 74 #[.pointer (some ⟨gm, 0, none⟩), .int .i64 a, .int .i64 0, .bool wr] w fun e w' => e = .returned (.tuple #[]) ∧ w = w' := by
  obtain ⟨A, cap, rfl⟩ := own_form h.log
  obtain ⟨ag, hb⟩ := h.blk
  have hc : w.cell? ⟨gm, 2, none⟩ = some (.slice A lg.length cap) := hb.cell 2
  have hl2 : ¬ 4096 < lg.length := by omega
  clear h hb hl
  go_enter Try.func74, Try.ntmps74
  go_wp2_with fail
  first | go_end0 | (refine bodyPost_ret (results_none rfl _ _ _) rfl ?_)
  exact ⟨rfl, rfl⟩
end
end Go.Proofs.Ytbpgblmhacpjlaa

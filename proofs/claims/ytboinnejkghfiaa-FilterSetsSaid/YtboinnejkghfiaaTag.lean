/-
  What the code's Tag answers, for every string and every number.
-/
import Derived.Test.YtboinnejkghfiaaBuild
namespace Go.Proofs.Ytboinnejkghfiaa
open Go.RowKit

theorem readF_b (s : ByteArray) : (readF s).b.size ≤ s.size := by
  unfold readF
  split
  · exact Nat.zero_le _
  · split
    · split
      · exact Nat.zero_le _
      · show (tail s 18).size ≤ _; rw [tail_size]; omega
    · show (tail s 14).size ≤ _; rw [tail_size]; omega
theorem parseE_size {s : ByteArray} (h : parseE s = 0) : s.size ≤ 1518 := by
  unfold parseE at h
  split at h
  · cases h
  · omega
theorem parse_b {s : ByteArray} (h : parseE s = 0) : (parseF s).b.size ≤ 140737488351232 := by
  rw [parseF, if_pos h]
  have := readF_b s
  have := parseE_size h
  omega
theorem parseE_cases (s : ByteArray) : parseE s = 0 ∨ parseE s = 60 ∨ parseE s = 61 := by
  unfold parseE
  split
  · simp
  · split
    · split <;> simp
    · simp
def tagF (s : ByteArray) (n : Int) : Fr := ⟨(parseF s).d, (parseF s).r, n, if n = -1 then 0 else (parseF s).p, (parseF s).t, (parseF s).b⟩
def tagE (s : ByteArray) (n : Int) : Int := if parseE s = 0 then buildE (tagF s n) else parseE s
def tagT (s : ByteArray) (n : Int) : ByteArray := if parseE s = 0 then buildS (tagF s n) else ⟨#[]⟩
end Go.Proofs.Ytboinnejkghfiaa

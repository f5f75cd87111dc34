/-
  What the code's Tag answers, for every string and every number.
-/
import Derived.Test.YtpjndjmneficbaaBuild
namespace Go.Proofs.Ytpjndjmneficbaa
open Go.RowKit

theorem readF_b (s : ByteArray) : (readF s).b.size ≤ s.size := by
  unfold readF
  split
  · exact Nat.zero_le _
  · split
    · split
      · exact Nat.zero_le _
      · show (tail s 18).size ≤ _; rw [tail_size]; omega
    · show (tail s 14).size ≤ _; rw [tail_size]; omega
theorem parseE_size {s : ByteArray} (h : parseE s = 0) : s.size ≤ 1518 := by
  unfold parseE at h
  split at h
  · cases h
  · omega
theorem parse_b {s : ByteArray} (h : parseE s = 0) : (parseF s).b.size ≤ 140737488351232 := by
  rw [parseF, if_pos h]
  have := readF_b s
  have := parseE_size h
  omega
theorem parseE_cases (s : ByteArray) : parseE s = 0 ∨ parseE s = 60 ∨ parseE s = 61 := by
  unfold parseE
  split
  · simp
  · split
    · split <;> simp
    · simp
def tagF (s : ByteArray) (n : Int) : Fr := ⟨(parseF s).d, (parseF s).r, n, if n = -1 then 0 else (parseF s).p, (parseF s).t, (parseF s).b⟩
def tagE (s : ByteArray) (n : Int) : Int := if parseE s = 0 then buildE (tagF s n) else parseE s
def tagT (s : ByteArray) (n : Int) : ByteArray := if parseE s = 0 then buildS (tagF s n) else ⟨#[]⟩
theorem tag_bad (s : ByteArray) (n : Int) (w : World) (h : (parseE s != 0) = true) :
    Calls Try.prog 19 #[.string s, .int .i64 n] w fun e w' => e = .returned (.tuple #[.string ⟨#[]⟩, .int .i64 (parseE s)]) ∧ Below w.heap.size w w' := by
  have P := parse_any s
  generalize parseF s = F at *
  generalize parseE s = E at *
  obtain ⟨d, r, v, p, t, b⟩ := F
  simp only [Fr.val, ethC] at P
  have HP := Lib.hid P
  clear P
  go_enter Try.func19, Try.ntmps19
  go_wp2_with fail
  refine (HP.out _).mono ?_
  rintro e w1 ⟨rfl, hb⟩
  go_wp2_with fail
  go_ret2
  exact ⟨rfl, hb.alloc hb.size _⟩
theorem tag_off (s : ByteArray) (w : World) (h : parseE s = 0) :
    Calls Try.prog 19 #[.string s, .int .i64 (-1)] w fun e w' => e = .returned (.tuple #[.string (buildS (tagF s (-1))), .int .i64 (buildE (tagF s (-1)))]) ∧ Below w.heap.size w w' := by
  have P := parse_any s
  have hb := parse_b h
  have B := fun W => build_any (tagF s (-1)) W hb
  have hF : tagF s (-1) = ⟨(parseF s).d, (parseF s).r, -1, 0, (parseF s).t, (parseF s).b⟩ := rfl
  rw [hF] at B ⊢
  generalize parseF s = F at *
  rw [h] at P
  obtain ⟨d, r, v, p, t, b⟩ := F
  simp only [Fr.val, ethC] at P B
  generalize buildS _ = S at *
  generalize buildE _ = E at *
  have HP := Lib.hid P
  have HB := Lib.hid B
  clear P B hF h
  go_enter Try.func19, Try.ntmps19
  go_wp2_with fail
  refine (HP.out _).mono ?_
  rintro e w1 ⟨rfl, hb1⟩
  go_wp2_with fail
  refine (HB.out _).mono ?_
  rintro e w2 ⟨rfl, hb2⟩
  go_wp2_with fail
  go_ret2
  exact ⟨rfl, (hb1.alloc hb1.size _).trans (hb2.mono (by have := hb1.size; simp; omega))⟩
theorem tag_on (s : ByteArray) (n : Int) (w : World) (h : parseE s = 0) (hn : (n == -1) = false) :
    Calls Try.prog 19 #[.string s, .int .i64 n] w fun e w' => e = .returned (.tuple #[.string (buildS (tagF s n)), .int .i64 (buildE (tagF s n))]) ∧ Below w.heap.size w w' := by
  have P := parse_any s
  have hb := parse_b h
  have B := fun W => build_any (tagF s n) W hb
  have hF : tagF s n = ⟨(parseF s).d, (parseF s).r, n, (parseF s).p, (parseF s).t, (parseF s).b⟩ := by rw [tagF, if_neg (by simpa using hn)]
  rw [hF] at B ⊢
  generalize parseF s = F at *
  rw [h] at P
  obtain ⟨d, r, v, p, t, b⟩ := F
  simp only [Fr.val, ethC] at P B
  generalize buildS _ = S at *
  generalize buildE _ = E at *
  have HP := Lib.hid P
  have HB := Lib.hid B
  clear P B hF h
  go_enter Try.func19, Try.ntmps19
  go_wp2_with fail
  refine (HP.out _).mono ?_
  rintro e w1 ⟨rfl, hb1⟩
  go_wp2_with fail
  refine (HB.out _).mono ?_
  rintro e w2 ⟨rfl, hb2⟩
  go_wp2_with fail
  go_ret2
  exact ⟨rfl, (hb1.alloc hb1.size _).trans (hb2.mono (by have := hb1.size; simp; omega))⟩
theorem tag_any (s : ByteArray) (n : Int) (w : World) :
    Calls Try.prog 19 #[.string s, .int .i64 n] w fun e w' => e = .returned (.tuple #[.string (tagT s n), .int .i64 (tagE s n)]) ∧ Below w.heap.size w w' := by
  by_cases h : parseE s = 0
  · have e1 : tagT s n = buildS (tagF s n) := if_pos h
    have e2 : tagE s n = buildE (tagF s n) := if_pos h
    rw [e1, e2]
    by_cases hn : n = -1
    · subst hn; exact tag_off s w h
    · exact tag_on s n w h (by simpa using hn)
  · have e1 : tagT s n = ⟨#[]⟩ := if_neg h
    have e2 : tagE s n = parseE s := if_neg h
    rw [e1, e2]
    exact tag_bad s n w (by simpa using h)
end Go.Proofs.Ytpjndjmneficbaa

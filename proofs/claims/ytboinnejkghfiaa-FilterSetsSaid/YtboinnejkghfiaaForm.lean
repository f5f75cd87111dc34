/-
  What a frame's tag, type and numbers may be, and the two bytes of a number: isTag, isType, isFrame, word of the code, kind, two, num of the document; no condition.
-/
import Derived.Test.YtboinnejkghfiaaRead
namespace Go.Proofs.Ytboinnejkghfiaa
open Go.RowKit

def tagB (v p : Int) : Bool := if v = -1 then decide (p = 0) else decide (0 ≤ v ∧ v ≤ 4094 ∧ 0 ≤ p ∧ p ≤ 7)
def kindB (t : Int) : Bool := decide (1536 ≤ t ∧ t ≤ 65535 ∧ t ≠ 33024)
def frameB (f : Fr) : Bool := decide (f.d.size = 6 ∧ f.r.size = 6 ∧ tagB f.v f.p = true ∧ kindB f.t = true)

theorem isTag_any (v p : Int) (w : World) : Calls Try.prog 53 #[.int .i64 v, .int .i64 p] w fun e w' => e = .returned (.bool (tagB v p)) ∧ w = w' := by
  by_cases h : v = -1
  · subst h
    have e : tagB (-1) p = (p == 0) := by rw [tagB, if_pos rfl]; rw [Bool.eq_iff_iff]; simp
    rw [e]
    go_enter Try.func53, Try.ntmps53
    go_wp2
    go_ret
    exact ⟨rfl, rfl⟩
  · have hb : (v == -1) = false := by simpa using h
    have e : tagB v p = decide (0 ≤ v ∧ v ≤ 4094 ∧ 0 ≤ p ∧ p ≤ 7) := by rw [tagB, if_neg h]
    rw [e]
    by_cases h0 : 0 ≤ v
    · by_cases h1 : v ≤ 4094
      · by_cases h2 : 0 ≤ p
        · go_enter Try.func53, Try.ntmps53
          go_wp2
          go_ret
          exact ⟨ret_bool (by simp [h0, h1, h2]), rfl⟩
        · go_enter Try.func53, Try.ntmps53
          go_wp2
          go_ret
          exact ⟨ret_bool (by simp; omega), rfl⟩
      · go_enter Try.func53, Try.ntmps53
        go_wp2
        go_ret
        exact ⟨ret_bool (by simp; omega), rfl⟩
    · go_enter Try.func53, Try.ntmps53
      go_wp2
      go_ret
      exact ⟨ret_bool (by simp; omega), rfl⟩
theorem isType_any (t : Int) (w : World) : Calls Try.prog 54 #[.int .i64 t] w fun e w' => e = .returned (.bool (kindB t)) ∧ w = w' := by
  by_cases h0 : 1536 ≤ t
  · by_cases h1 : t ≤ 65535
    · go_enter Try.func54, Try.ntmps54
      go_wp2
      go_ret
      exact ⟨ret_bool (by rw [Bool.eq_iff_iff]; simp [kindB, h0, h1]), rfl⟩
    · go_enter Try.func54, Try.ntmps54
      go_wp2
      go_ret
      exact ⟨ret_bool (by simp [kindB]; omega), rfl⟩
  · go_enter Try.func54, Try.ntmps54
    go_wp2
    go_ret
    exact ⟨ret_bool (by simp [kindB]; omega), rfl⟩
theorem kind_any (t : Int) (w : World) : Calls Try.prog 43 #[.int .i64 t] w fun e w' => e = .returned (.bool (kindB t)) ∧ w = w' := by
  by_cases h0 : 1536 ≤ t
  · by_cases h1 : t ≤ 65535
    · go_enter Try.func43, Try.ntmps43
      go_wp2
      go_ret
      exact ⟨ret_bool (by rw [Bool.eq_iff_iff]; simp [kindB, h0, h1]), rfl⟩
    · go_enter Try.func43, Try.ntmps43
      go_wp2
      go_ret
      exact ⟨ret_bool (by simp [kindB]; omega), rfl⟩
  · go_enter Try.func43, Try.ntmps43
    go_wp2
    go_ret
    exact ⟨ret_bool (by simp [kindB]; omega), rfl⟩
/-- The two bytes of a number. -/
def two (v : Int) : ByteArray := ⟨(enc v.toNat 2 true).toArray⟩
theorem two_size (v : Int) : (two v).size = 2 := by
  show (enc v.toNat 2 true).toArray.size = 2
  simp [enc_length]
theorem num_is (s : ByteArray) (a : Nat) (h : a + 2 ≤ s.size) : num s a = 256 * s[a].toNat + s[a + 1].toNat := by
  have hl := cutl_length s a 2 h
  have e : cutl s a 2 = [s[a], s[a + 1]] := by
    apply List.ext_getElem (by rw [hl]; rfl)
    intro i h1 h2
    rw [hl] at h1
    rw [cutl_get s a 2 i h h1]
    match i, h1 with
    | 0, _ => rfl
    | 1, _ => rfl
  rw [num, e]
  simp [dec, val]; omega
theorem num_any (s : ByteArray) (a : Nat) (w : World) (h : a + 2 ≤ s.size) (hs : s.size ≤ 1518) : Calls Try.prog 42 #[.string s, .int .i64 a] w fun e w' => e = .returned (.int .i64 (num s a)) ∧ ∃ n, w' = w.drewN n := by
  rw [num_is s a h]
  have ha := s[a].toNat_lt
  have hb := s[a + 1].toNat_lt
  have e0 : (a : Int) < s.size := by omega
  have e1 : (a : Int) + 1 < s.size := by omega
  have e2 : a < s.size := by omega
  have e3 : a + 1 < s.size := by omega
  have e4 : (0 : Int) ≤ (a : Int) + 1 := by omega
  have e5 : IntKind.i64.wrap ((a : Int) + 1) = (a : Int) + 1 := IntWalk.i64_in _ (by omega)
  have e6 : ((a : Int) + 1).toNat = a + 1 := by omega
  have e7 : IntKind.i64.wrap (s[a].toNat : Int) = (s[a].toNat : Int) := IntWalk.i64_in _ (by omega)
  have e8 : IntKind.i64.wrap (s[a + 1].toNat : Int) = (s[a + 1].toNat : Int) := IntWalk.i64_in _ (by omega)
  have e9 : IntKind.i64.wrap (256 * (s[a].toNat : Int)) = 256 * (s[a].toNat : Int) := IntWalk.i64_in _ (by omega)
  have e10 : IntKind.i64.wrap (256 * (s[a].toNat : Int) + (s[a + 1].toNat : Int)) = 256 * (s[a].toNat : Int) + (s[a + 1].toNat : Int) := IntWalk.i64_in _ (by omega)
  go_enter Try.func42, Try.ntmps42
  go_wp2_with fail
  go_quiet (fail)
  go_wp2
  go_ret
  exact ⟨rfl, nq, rfl⟩
end Go.Proofs.Ytboinnejkghfiaa

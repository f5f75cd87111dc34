/-
  The mathematics of commands that are cut or have more behind them: they are none; no condition.
-/
import Derived.Test.YtongkfimgohhbaaMx
namespace Go.Proofs.Ytongkfimgohhbaa

/-! How long a command is -/
theorem tkR_len (s : ByteArray) (n : Nat) (h : ¬ s.size < n) : (tkR s n).size = s.size - n := by
  unfold tkR
  rw [if_neg h, ByteArray.size_extract]
  omega
theorem tkB_len {s : ByteArray} {n : Nat} {b : Bool} (h : tkB s n b = false) : ¬ s.size < n ∧ b = false := by
  unfold tkB at h
  split at h
  · cases h
  · exact ⟨by assumption, h⟩
theorem b2_len {s : ByteArray} (h : b2 s false = false) : (c2 s).size + 2 = s.size := by
  unfold b2 at h
  obtain ⟨h1, h2⟩ := tkB_len h
  obtain ⟨h3, _⟩ := tkB_len h2
  have e1 := tkR_len s 1 h3
  have e2 := tkR_len _ 1 h1
  unfold c2
  omega
theorem end_len {s : ByteArray} {n : Nat} {b : Bool} (h : (!tkB s n b && (tkR s n).size == 0) = true) : s.size = n ∧ b = false := by
  simp only [Bool.and_eq_true, Bool.not_eq_true', beq_iff_eq] at h
  obtain ⟨h1, h2⟩ := tkB_len h.1
  have := tkR_len s n h1
  exact ⟨by omega, h2⟩
theorem app_len0 {K X : Cg} {s : ByteArray} (h : appC K s = some X) (hc : nm s 1 = 0) : s.size = 3 := by
  unfold appC at h
  split at h
  · rename_i hh
    unfold chgC at hh
    rw [if_pos hc] at hh
    simp only [Bool.and_eq_true] at hh
    obtain ⟨e1, e2⟩ := end_len (by simpa using hh.1.2)
    have := b2_len e2
    omega
  · cases h
theorem app_len2 {K X : Cg} {s : ByteArray} (h : appC K s = some X) (hc : nm s 1 = 2) : s.size = 4 := by
  unfold appC at h
  split at h
  · rename_i hh
    unfold chgC at hh
    rw [if_neg (by omega), if_neg (by omega), if_pos hc] at hh
    simp only [Bool.and_eq_true] at hh
    obtain ⟨e1, e2⟩ := end_len (by simpa using hh.1.2)
    have := b2_len e2
    omega
  · cases h
theorem app_len4 {K X : Cg} {s : ByteArray} (h : appC K s = some X) (hc : nm s 1 = 4) (hn : cN s = 0) : s.size = 4 := by
  unfold appC at h
  split at h
  · rename_i hh
    unfold chgC at hh
    rw [if_neg (by omega), if_neg (by omega), if_neg (by omega), if_pos hc, if_pos hn] at hh
    simp only [Bool.and_eq_true] at hh
    obtain ⟨e1, e2⟩ := end_len (by simpa using hh.1.2)
    have := b2_len e2
    omega
  · cases h
theorem nm_cut (s : ByteArray) (c n : Nat) (h : n ≤ c) (hc : c ≤ s.size) : nm (s.extract 0 c) n = nm s n := by
  have hz : (s.extract 0 c).size = c := by rw [ByteArray.size_extract]; omega
  unfold nm
  rw [hz, if_neg (by omega), if_neg (by omega)]
  congr 1
  simp only [cutl, ByteArray.data_extract, Array.toList_extract, List.extract, List.drop_zero, Nat.sub_zero, List.take_take]
  rw [Nat.min_eq_left h]
theorem nm_more (s : ByteArray) (r : List UInt8) (n : Nat) (h : n ≤ s.size) : nm (s ++ bs r) n = nm s n := by
  have e : s ++ bs r = bs (s.data.toList ++ r) := by rw [← bs_app, bs_of]
  rw [e]
  unfold nm
  have hl : s.data.toList.length = s.size := rfl
  rw [if_neg (by rw [bs_size, List.length_append]; omega), if_neg (by omega)]
  congr 1
  simp only [cutl, bs_list, List.drop_zero]
  rw [List.take_append_of_le_length (by omega)]
/-- a command of one length alone is none when it is another -/
def Rigid (s : ByteArray) (m : Nat) : Prop := s.size = m ∧ 2 ≤ m ∧ ((nm s 1 = 0 ∧ m = 3) ∨ (nm s 1 = 2 ∧ m = 4) ∨ (nm s 1 = 4 ∧ cN s = 0 ∧ m = 4))
theorem ack_of_none {K : Cg} {s : ByteArray} (h : ∀ X, appC K s ≠ some X) : ackC K s = 1 := by
  cases hA : appC K s with
  | none => exact (res_none hA).2
  | some X => exact absurd hA (h X)
theorem cN_cut (s : ByteArray) (c : Nat) (h2 : 2 ≤ s.size) (hc : c ≤ s.size) (h1 : 1 ≤ c) (hn : cN s = 0) : cN (s.extract 0 c) = 0 := by
  have hz : (s.extract 0 c).size = c := by rw [ByteArray.size_extract]; omega
  by_cases h : c = 1
  · unfold cN nm
    rw [if_pos (by rw [tkR_len _ 1 (by omega), hz]; omega)]
  · have e : tkR (s.extract 0 c) 1 = (tkR s 1).extract 0 (c - 1) := by
      unfold tkR
      rw [hz, if_neg (by omega), if_neg (by omega)]
      apply ByteArray.ext
      simp only [ByteArray.data_extract]
      rw [Array.extract_extract, Array.extract_extract]
      congr 1 <;> omega
    unfold cN at hn ⊢
    rw [e, nm_cut _ _ _ (by omega) (by rw [tkR_len s 1 (by omega)]; omega)]
    exact hn
theorem rigid_cut (K : Cg) {s : ByteArray} {m : Nat} (h : Rigid s m) (c : Nat) (hc : c < s.size) : ackC K (s.extract 0 c) = 1 := by
  obtain ⟨hm, h2, h⟩ := h
  have hz : (s.extract 0 c).size = c := by rw [ByteArray.size_extract]; omega
  refine ack_of_none fun X hA => ?_
  by_cases h0 : c = 0
  · have : nm (s.extract 0 c) 1 = 0 := by unfold nm; rw [if_pos (by omega)]
    have := app_len0 hA this
    omega
  · have e := nm_cut s c 1 (by omega) (by omega)
    rcases h with ⟨h, h3⟩ | ⟨h, h3⟩ | ⟨h, h4, h3⟩
    · have := app_len0 hA (by omega); omega
    · have := app_len2 hA (by omega); omega
    · have := app_len4 hA (by omega) (cN_cut s c (by omega) (by omega) (by omega) h4); omega
theorem rigid_more (K : Cg) {s : ByteArray} {m : Nat} (h : Rigid s m) : ackC K (s ++ bs [0]) = 1 := by
  obtain ⟨hm, h2, h⟩ := h
  have hz : (s ++ bs [0]).size = m + 1 := by rw [ByteArray.size_append, hm]; rfl
  have e := nm_more s [0] 1 (by omega)
  refine ack_of_none fun X hA => ?_
  rcases h with ⟨h, h3⟩ | ⟨h, h3⟩ | ⟨h, h4, h3⟩
  · have := app_len0 hA (by omega); omega
  · have := app_len2 hA (by omega); omega
  · have hn : cN (s ++ bs [0]) = 0 := by
      have e2 : tkR (s ++ bs [0]) 1 = tkR s 1 ++ bs [0] := by
        obtain ⟨a, l, hl⟩ : ∃ a l, s.data.toList = a :: l := by
          have hlen : s.data.toList.length = s.size := rfl
          match hs : s.data.toList with
          | [] => rw [hs] at hlen; simp at hlen; omega
          | a :: l => exact ⟨a, l, rfl⟩
        have es : s = bs ([a] ++ l) := by rw [← bs_of s, hl]; rfl
        rw [es, bs_app, List.append_assoc, take_R _ _ 1 rfl, take_R _ _ 1 rfl, bs_app]
      unfold cN at h4 ⊢
      rw [e2, nm_more _ _ _ (by rw [tkR_len s 1 (by omega)]; omega)]
      exact h4
    have := app_len4 hA (by omega) hn; omega
end Go.Proofs.Ytongkfimgohhbaa

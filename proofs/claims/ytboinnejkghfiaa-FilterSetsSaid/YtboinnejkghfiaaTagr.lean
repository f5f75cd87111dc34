/-
  What the document's own Tag answers, for every string and every number: the same as the code's; its Parse in one.
-/
import Derived.Test.YtboinnejkghfiaaParser
import Derived.Test.YtboinnejkghfiaaTag
namespace Go.Proofs.Ytboinnejkghfiaa
open Go.RowKit

theorem refParse_long (s : ByteArray) (w : World) (h : 1518 < s.size) :
    Calls Try.prog 30 #[.string s] w fun e w' => e = .returned (.tuple #[.agg (ethC ⟨#[]⟩ ⟨#[]⟩ 0 0 0 ⟨#[]⟩), .int .i64 61]) ∧ Below w.heap.size w w' := by
  go_enter Try.func30, Try.ntmps30
  go_wp2
  exact bodyPost_ret (v := .tuple #[.agg (ethC ⟨#[]⟩ ⟨#[]⟩ 0 0 0 ⟨#[]⟩), .int .i64 61]) (by simp [results, Try.results30, go_sem, ethC]) rfl ⟨rfl, (Below.refl _ _).alloc (Nat.le_refl _) _⟩
theorem refParse_less (s : ByteArray) (w : World) (h : s.size < 14) :
    Calls Try.prog 30 #[.string s] w fun e w' => e = .returned (.tuple #[.agg (ethC ⟨#[]⟩ ⟨#[]⟩ 0 0 0 ⟨#[]⟩), .int .i64 60]) ∧ Below w.heap.size w w' := by
  have h' : ¬ 1518 < s.size := by omega
  go_enter Try.func30, Try.ntmps30
  go_wp2
  exact bodyPost_ret (v := .tuple #[.agg (ethC ⟨#[]⟩ ⟨#[]⟩ 0 0 0 ⟨#[]⟩), .int .i64 60]) (by simp [results, Try.results30, go_sem, ethC]) rfl ⟨rfl, (Below.refl _ _).alloc (Nat.le_refl _) _⟩
theorem readF_plain {s : ByteArray} (h : 14 ≤ s.size) (ht : num s 12 ≠ 33024) : readF s = ⟨s.extract 0 6, s.extract 6 12, -1, 0, num s 12, tail s 14⟩ := by
  rw [readF, if_neg (by omega), if_neg ht]
theorem readF_tag {s : ByteArray} (h : 18 ≤ s.size) (ht : num s 12 = 33024) : readF s = ⟨s.extract 0 6, s.extract 6 12, num s 14 % 8192, num s 14 / 8192, num s 16, tail s 18⟩ := by
  rw [readF, if_neg (by omega), if_pos ht, if_neg (by omega)]
theorem cut_size {s : ByteArray} {a b : Nat} (h : b ≤ s.size) : (s.extract a b).size = b - a := by simp [ByteArray.size_extract]; omega
theorem parse_in {s : ByteArray} (h : s.size ≤ 1518) (h1 : readE s = 0) (h2 : frameB (readF s) = true) : parseE s = 0 ∧ parseF s = readF s := by
  have e : parseE s = 0 := by rw [parseE, if_neg (by omega), if_pos h1, h2]; rfl
  exact ⟨e, if_pos e⟩
theorem parse_out {s : ByteArray} (h : s.size ≤ 1518) (h1 : readE s = 0) (h2 : frameB (readF s) = false) : parseE s = 61 ∧ parseF s = .zero := by
  have e : parseE s = 61 := by rw [parseE, if_neg (by omega), if_pos h1, h2]; rfl
  exact ⟨e, by rw [parseF, e, if_neg (by decide)]⟩
theorem refParse_any (s : ByteArray) (w : World) :
    Calls Try.prog 30 #[.string s] w fun e w' => e = .returned (.tuple #[(parseF s).val, .int .i64 (parseE s)]) ∧ Below w.heap.size w w' := by
  by_cases h1 : 1518 < s.size
  · have e1 : parseE s = 61 := by rw [parseE, if_pos h1]
    have e2 : parseF s = .zero := by rw [parseF, e1, if_neg (by decide)]
    rw [e1, e2]
    exact refParse_long s w h1
  · have hs : s.size ≤ 1518 := by omega
    by_cases h2 : readE s = 0
    · have h3 : 14 ≤ s.size ∧ (num s 12 = 33024 → 18 ≤ s.size) := by
        unfold readE at h2
        split at h2
        · cases h2
        · rename_i h; exact ⟨by omega, fun e => by omega⟩
      by_cases ht : num s 12 = 33024
      · have hb : ((num s 12 : Int) == 33024) = true := by rw [ht]; rfl
        have h18 := h3.2 ht
        have hF := readF_tag h18 ht
        have hlt := num_lt s 14
        have hp : frameB (readF s) = decide ((num s 14 : Int) % 8192 ≤ 4094 ∧ kindB (num s 16) = true) := by
          rw [Bool.eq_iff_iff, frameB_iff, hF, decide_eq_true_iff]
          simp only [cut_size (show 6 ≤ s.size by omega), cut_size (show 12 ≤ s.size by omega), tagB]
          rw [if_neg (by omega), decide_eq_true_iff]
          exact ⟨fun x => ⟨x.2.2.1.2.1, x.2.2.2⟩, fun x => ⟨trivial, trivial, ⟨by omega, x.1, by omega, by omega⟩, x.2⟩⟩
        by_cases k1 : (num s 14 : Int) % 8192 ≤ 4094
        · have b1 : ((num s 14 : Int) / 4096 % 2 == 1) = false := by
            have : (num s 14 : Int) / 4096 % 2 ≠ 1 := by omega
            simpa using this
          have b2 : ((num s 14 : Int) % 4096 == 4095) = false := by
            have : (num s 14 : Int) % 4096 ≠ 4095 := by omega
            simpa using this
          cases k2 : kindB (num s 16)
          · obtain ⟨e1, e2⟩ := parse_out hs h2 (by rw [hp, k2]; simp)
            rw [e1, e2]
            exact refParse_tag_kind s w h3.1 hs hb h18 b1 b2 k2
          · obtain ⟨e1, e2⟩ := parse_in hs h2 (by rw [hp, k2]; simpa using k1)
            rw [e1, e2, hF]
            have e3 : (num s 14 : Int) % 8192 = (num s 14 : Int) % 4096 := by omega
            show Calls Try.prog 30 #[.string s] w fun e w' => e = .returned (.tuple #[.agg (ethC (s.extract 0 6) (s.extract 6 12) ((num s 14 : Int) % 8192) ((num s 14 : Int) / 8192) (num s 16) (tail s 18)), .int .i64 0]) ∧ Below w.heap.size w w'
            rw [e3]
            exact refParse_tag_good s w h3.1 hs hb h18 b1 b2 k2
        · obtain ⟨e1, e2⟩ := parse_out hs h2 (by rw [hp]; exact decide_eq_false (fun x => k1 x.1))
          rw [e1, e2]
          by_cases k3 : (num s 14 : Int) / 4096 % 2 = 1
          · exact refParse_tag_bit s w h3.1 hs hb h18 (by simpa using k3)
          · have b1 : ((num s 14 : Int) / 4096 % 2 == 1) = false := by simpa using k3
            have b2 : ((num s 14 : Int) % 4096 == 4095) = true := by
              have : (num s 14 : Int) % 4096 = 4095 := by omega
              rw [this]; rfl
            exact refParse_tag_all s w h3.1 hs hb h18 b1 b2
      · have hb : ((num s 12 : Int) == 33024) = false := by simpa using (by omega : (num s 12 : Int) ≠ 33024)
        have hF := readF_plain h3.1 ht
        have hp : frameB (readF s) = kindB (num s 12) := by
          rw [Bool.eq_iff_iff, frameB_iff, hF]
          simp only [cut_size (show 6 ≤ s.size by omega), cut_size (show 12 ≤ s.size by omega), tagB]
          simp
        cases k2 : kindB (num s 12)
        · obtain ⟨e1, e2⟩ := parse_out hs h2 (by rw [hp, k2])
          rw [e1, e2]
          exact refParse_plain_false s w h3.1 hs hb k2
        · obtain ⟨e1, e2⟩ := parse_in hs h2 (by rw [hp, k2])
          rw [e1, e2, hF]
          exact refParse_plain_true s w h3.1 hs hb k2
    · have e1 : parseE s = 60 := by rw [parseE, if_neg h1, if_neg h2]
      have e2 : parseF s = .zero := by rw [parseF, e1, if_neg (by decide)]
      rw [e1, e2]
      by_cases h3 : s.size < 14
      · exact refParse_less s w h3
      · have h4 : num s 12 = 33024 ∧ s.size < 18 := by
          unfold readE at h2
          split at h2
          · rename_i h; rcases h with h | h
            · exact absurd h h3
            · exact h
          · exact absurd rfl h2
        exact refParse_short s w (by omega) hs (by rw [h4.1]; rfl) h4.2
end Go.Proofs.Ytboinnejkghfiaa

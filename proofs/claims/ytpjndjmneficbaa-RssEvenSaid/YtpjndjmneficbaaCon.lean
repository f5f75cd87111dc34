/-
  What csum.On answers, for every sum and every string within the language's own length: the ones' sum of the string's words.
-/
import Derived.Test.YtpjndjmneficbaaCsmall
import Derived.StillTailTactics
import Derived.Below
namespace Go.Proofs.Ytpjndjmneficbaa
open Go.RowKit

theorem word_last (a : Nat) (w : World) (ha : a < 256) : Calls Try.prog 86 #[.int .u8 a, .int .u8 0] w fun e w' => e = .returned (.int .u16 (256 * a)) ∧ w = w' := by
  have h := word_any a 0 w ha (by omega)
  simpa using h
theorem take_two (l : List UInt8) (k : Nat) (h : 2 * k + 1 < l.length) : l.take (2 * (k + 1)) = l.take (2 * k) ++ [l[2 * k], l[2 * k + 1]] := by
  have e : ∀ j (hj : j < l.length), l.take (j + 1) = l.take j ++ [l[j]] := fun j hj => by rw [List.take_add_one, List.getElem?_eq_getElem hj]; rfl
  rw [show 2 * (k + 1) = 2 * k + 1 + 1 by omega, e _ h, e _ (by omega)]
  rw [List.append_assoc]; rfl
theorem on_round (s : ByteArray) (n : Int) (k : Nat) (h : 2 * k + 1 < s.size) :
    onL n (s.data.toList.take (2 * (k + 1))) = ones (onL n (s.data.toList.take (2 * k))) (256 * (s[2 * k].toNat : Int) + s[2 * k + 1].toNat) := by
  have hl : s.data.toList.length = s.size := rfl
  rw [take_two _ _ (by omega), onL_append _ _ _ (by rw [List.length_take]; omega)]
  rfl
theorem on_end (s : ByteArray) (n : Int) (k : Nat) (h : 2 * k + 1 = s.size) :
    onL n s.data.toList = ones (onL n (s.data.toList.take (2 * k))) (256 * (s[2 * k].toNat : Int)) := by
  have hl : s.data.toList.length = s.size := rfl
  have e : s.data.toList = s.data.toList.take (2 * k) ++ [s.data.toList[2 * k]] := by
    have e1 := List.take_add_one (l := s.data.toList) (i := 2 * k)
    rw [List.getElem?_eq_getElem (by omega), List.take_of_length_le (by omega)] at e1
    exact e1
  conv => lhs; rw [e]
  rw [onL_append _ _ _ (by rw [List.length_take]; omega)]
  rfl

set_option maxRecDepth 100000 in
set_option maxHeartbeats 1600000 in
theorem on_any (n : Int) (s : ByteArray) (w : World) (h1 : 0 ≤ n) (h2 : n ≤ 65535) (hs : s.size ≤ maxLen) :
    Calls Try.prog 83 #[.int .u16 n, .string s] w fun e w' => e = .returned (.int .u16 (onS n s)) ∧ Below w.heap.size w w' := by
  unfold maxLen at hs
  go_enter Try.func83, Try.ntmps83
  go_wp2_with (go_at_call 85; refine (adder_any _ _).mono ?_; rintro e w1 ⟨rfl, rfl⟩)
  go_loopw [0, 12] (fun v i wr => ∃ k : Nat, k ≤ s.size / 2 ∧ i = .int .i64 k ∧ v = .int .u16 (onL n (s.data.toList.take (2 * k))) ∧
      wr.cell? ⟨w.heap.size, 0, none⟩ = some (.int .u16 (onL n (s.data.toList.take (2 * k)))) ∧ wr.frozen? ⟨w.heap.size, 0, none⟩ = false ∧ Below w.heap.size w wr) (fun _ i _ => s.size / 2 - (intOf i).toNat)
  case atStart => exact ⟨0, Nat.zero_le _, rfl, rfl, by rw [World.cell?_alloc_at _ _ _ _ rfl]; rfl, World.frozen?_alloc_at _ _ _ _ rfl, (Below.refl _ _).alloc (Nat.le_refl _) _⟩
  case round =>
    obtain ⟨k, hk, rfl, rfl, hc, hf, hb⟩ := hrel
    by_cases hlt : k < s.size / 2
    · go_wp2_with fail
      have e1 : 2 * k < s.size := by omega
      have e2 : 2 * k + 1 < s.size := by omega
      have e3 : (2 * (k : Int)).toNat = 2 * k := by omega
      have e4 : (2 * (k : Int) + 1).toNat = 2 * k + 1 := by omega
      have e5 : IntKind.i64.wrap (2 * (k : Int)) = 2 * k := IntWalk.i64_in _ (by omega)
      have e6 : IntKind.i64.wrap (2 * (k : Int) + 1) = 2 * k + 1 := IntWalk.i64_in _ (by omega)
      have e7 : (0 : Int) ≤ 2 * (k : Int) := by omega
      have e8 : 2 * (k : Int) < s.size := by omega
      have e9 : (0 : Int) ≤ 2 * (k : Int) + 1 := by omega
      have e10 : 2 * (k : Int) + 1 < s.size := by omega
      go_still_tail 11, (by kernel_rfl)
      still_call ((word_any _ _ _ (UInt8.toNat_lt _) (UInt8.toNat_lt _)).mono fun e w' ⟨he, hw⟩ => ⟨he, hw.symm⟩)
      refine wpStill_nil ?_
      change wpList _ _ _ _ _ wr.drew
      have hc2 : wr.drew.cell? ⟨w.heap.size, 0, none⟩ = some (.int .u16 (onL n (s.data.toList.take (2 * k)))) := hc
      have hf2 : wr.drew.frozen? ⟨w.heap.size, 0, none⟩ = false := hf
      have hb2 : Below w.heap.size w wr.drew := hb.drew
      have hr := onL_range (s.data.toList.take (2 * k)) n h1 h2
      have hx1 : s[2 * k].toNat < 256 := s[2 * k].toNat_lt
      have hx2 : s[2 * k + 1].toNat < 256 := s[2 * k + 1].toNat_lt
      have hround := on_round s n k e2
      clear hc hf hb e5 e6
      generalize wr.drew = w2 at *
      go_wp2_with (go_at_call 87; refine (add_any _ _ _ _ hr.1 hr.2 (by omega) (by omega) hc2 hf2).mono ?_; rintro e w3 ⟨rfl, rfl⟩)
      go_roundw
      case rel => exact ⟨k + 1, by omega, by go_num, by rw [hround], by rw [World.cell?_setCell_same _ _ _ hc2, hround], (World.frozen?_setCell _ _ _ _).trans hf2, hb2.setCell (Nat.le_refl _) _⟩
      case measure => simp [intOf]; omega
    · obtain rfl : k = s.size / 2 := by omega
      have hr := onL_range (s.data.toList.take (2 * (s.size / 2))) n h1 h2
      by_cases hodd : s.size % 2 = 0
      · have hall : onL n (s.data.toList.take (2 * (s.size / 2))) = onS n s := by
          rw [List.take_of_length_le]; rfl
          show s.size ≤ _; omega
        rw [hall] at *
        go_wp2
        go_ret
        exact ⟨rfl, hb⟩
      · have e1 : s.size - 1 < s.size := by omega
        have hx1 : s[s.size - 1].toNat < 256 := s[s.size - 1].toNat_lt
        have hend : onS n s = ones (onL n (s.data.toList.take (2 * (s.size / 2)))) (256 * (s[s.size - 1].toNat : Int)) := by
          rw [onS, on_end s n (s.size / 2) (by omega)]
          congr 3
          congr 1
          congr 1
          omega
        go_wp2_with (first
          | (go_at_call 86; refine (word_last _ _ hx1).mono ?_; rintro e w3 ⟨rfl, rfl⟩)
          | (go_at_call 87; refine (add_any _ _ _ _ hr.1 hr.2 (by omega) (by omega) hc hf).mono ?_; rintro e w3 ⟨rfl, rfl⟩))
        go_ret
        exact ⟨by rw [hend]; rfl, hb.setCell (Nat.le_refl _) _⟩
end Go.Proofs.Ytpjndjmneficbaa

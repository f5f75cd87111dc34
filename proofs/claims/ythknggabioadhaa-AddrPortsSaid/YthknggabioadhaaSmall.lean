/-
  What addr's digit, separated and Kind, and the document's digit, value and Kind answer: for every input.
-/
import Derived.Test.YthknggabioadhaaMath
import Derived.WalkKit
import Derived.WalkSpells
import Derived.WalkLawsBesides
import Derived.Deep.QuietTactic
import Derived.BigQuiet
import Derived.Lib.Hide
import Derived.Laws.RangeString
namespace Go.Proofs.Ythknggabioadhaa
open Go.RowKit

theorem bl {w w1 w2 : World} (h : Below w.heap.size w w1) (g : Below w1.heap.size w1 w2) : Below w.heap.size w w2 := h.trans (g.mono h.size)
theorem bla {w w1 : World} (h : Below w.heap.size w w1) (o : Obj) : Below w.heap.size w (w1.alloc o) := h.alloc h.size o

theorem digs_at (k : Nat) (h : k < 16) : ((⟨#[48, 49, 50, 51, 52, 53, 54, 55, 56, 57, 97, 98, 99, 100, 101, 102]⟩ : ByteArray)[k]'h).toNat = hexN k := by
  have e : ∀ j : Fin 16, ((⟨#[48, 49, 50, 51, 52, 53, 54, 55, 56, 57, 97, 98, 99, 100, 101, 102]⟩ : ByteArray)[j.val]'j.isLt).toNat = hexN j.val := by decide
  exact e ⟨k, h⟩

set_option maxHeartbeats 400000 in
theorem digit_any (c : Nat) (w : World) (hc : c < 256) :
    Calls Try.prog 20 #[.int .u8 c] w fun e w' => e = .returned (.int .i64 (hexV c)) ∧ Below w.heap.size w w' := by
  go_enter Try.func20, Try.ntmps20
  go_wp2
  go_loopw [6] (fun _ wr => ∃ k : Nat, k ≤ 16 ∧ (hexV c < 0 ∨ k ≤ hexV c) ∧ wr = w.iter ⟨#[48, 49, 50, 51, 52, 53, 54, 55, 56, 57, 97, 98, 99, 100, 101, 102]⟩ k) (fun _ wr => 16 - wr.iterPos w.heap.size)
  case atStart => exact ⟨0, by omega, by omega, rfl⟩
  case round =>
    obtain ⟨k, hk, hv, rfl⟩ := hrel
    have hr := hexV_range c
    by_cases hlt : k < 16
    · have hnx : ∀ ty, (Instr.next (.pointer (some ⟨w.heap.size, 0, none⟩)) true ty).run Try.prog (w.iter ⟨#[48, 49, 50, 51, 52, 53, 54, 55, 56, 57, 97, 98, 99, 100, 101, 102]⟩ k) = .ok (.tuple #[.bool true, .int .i64 k, .int .i32 (hexN k)]) (w.iter ⟨#[48, 49, 50, 51, 52, 53, 54, 55, 56, 57, 97, 98, 99, 100, 101, 102]⟩ (k + 1)) := by
        intro ty
        rw [run_next_ascii w ⟨#[48, 49, 50, 51, 52, 53, 54, 55, 56, 57, 97, 98, 99, 100, 101, 102]⟩ k ty hlt (by rw [digs_at k hlt]; exact hexN_lt k hlt), digs_at k hlt]
      by_cases e : c = hexN k
      · have hd := hexV_hexN k hlt
        rw [← e] at hd
        rw [← e] at hnx
        have HD := Lib.hid hd
        clear hv hr hd e
        go_wp2
        go_ret
        exact ⟨by rw [HD.out]; rfl, (Below.refl _ _).alloc (Nat.le_refl _) _⟩
      · have hd := hexV_ne c k e
        obtain ⟨d, hd1, hd2⟩ : ∃ d : Nat, d = hexN k ∧ d < 128 := ⟨_, rfl, hexN_lt k hlt⟩
        rw [← hd1] at hnx e
        clear hd1
        have e1 : ((d : Int) == (c : Int)) = false := by
          rw [beq_eq_false_iff_ne]; omega
        go_wp2
        go_roundw
        case rel => exact ⟨k + 1, by omega, by omega, rfl⟩
        case measure => simp [World.iterPos, World.iter_heap]; omega
    · obtain rfl : k = 16 := by omega
      have hnx : ∀ ty, (Instr.next (.pointer (some ⟨w.heap.size, 0, none⟩)) true ty).run Try.prog (w.iter ⟨#[48, 49, 50, 51, 52, 53, 54, 55, 56, 57, 97, 98, 99, 100, 101, 102]⟩ 16) = .ok (.tuple #[.bool false]) (w.iter ⟨#[48, 49, 50, 51, 52, 53, 54, 55, 56, 57, 97, 98, 99, 100, 101, 102]⟩ 16) := fun ty => run_next_end w ⟨#[48, 49, 50, 51, 52, 53, 54, 55, 56, 57, 97, 98, 99, 100, 101, 102]⟩ 16 ty (by decide)
      have hd : hexV c = -1 := by omega
      have HD := Lib.hid hd
      clear hv hr hd
      go_wp2
      go_ret
      exact ⟨by rw [HD.out]; rfl, (Below.refl _ _).alloc (Nat.le_refl _) _⟩

/-- whether the digits at 3i end the text or are followed by a separator -/
theorem separated_yes (s : ByteArray) (i : Nat) (w : World) (hs : s.size = 17) (hi : i < 6) (h : i = 5 ∨ bt s (3 * i + 2) = 58) :
    Calls Try.prog 21 #[.string s, .int .i64 (3 * (i : Int))] w fun e w' => e = .returned (.bool true) ∧ w = w' := by
  have hz : (s.size : Int) = 17 := by omega
  by_cases h5 : i = 5
  · subst h5
    go_enter Try.func21, Try.ntmps21
    go_wp2
    go_ret
    exact ⟨rfl, rfl⟩
  · have hb : bt s (3 * i + 2) = 58 := h.resolve_left h5
    have hl : 3 * i + 2 < s.size := by omega
    rw [bt_in s _ hl] at hb
    have e1 : (3 * (i : Int) + 2 == 17) = false := by rw [beq_eq_false_iff_ne]; omega
    go_enter Try.func21, Try.ntmps21
    go_wp2
    go_ret
    exact ⟨rfl, rfl⟩
theorem separated_no (s : ByteArray) (i : Nat) (w : World) (hs : s.size = 17) (hi : i < 5) (h : bt s (3 * i + 2) ≠ 58) :
    Calls Try.prog 21 #[.string s, .int .i64 (3 * (i : Int))] w fun e w' => e = .returned (.bool false) ∧ w = w' := by
  have hz : (s.size : Int) = 17 := by omega
  have hl : 3 * i + 2 < s.size := by omega
  rw [bt_in s _ hl] at h
  have hn : s[3 * i + 2].toNat ≠ 58 := fun e => h (UInt8.toNat_inj.1 e)
  have e1 : (3 * (i : Int) + 3 - 1 == 17) = false := by rw [beq_eq_false_iff_ne]; omega
  have e2 : ((s[3 * i + 2].toNat : Int) == 58) = false := by rw [beq_eq_false_iff_ne]; omega
  clear hn h
  go_enter Try.func21, Try.ntmps21
  go_wp2
  go_ret
  exact ⟨rfl, rfl⟩

/-- the document's digit -/
def digS (n : Nat) : ByteArray := ⟨#[hexD n]⟩
theorem digS_cut (n : Nat) (h : n < 16) : (⟨#[48, 49, 50, 51, 52, 53, 54, 55, 56, 57, 97, 98, 99, 100, 101, 102]⟩ : ByteArray).extract n (n + 1) = digS n := by
  have e : ∀ j : Fin 16, (⟨#[48, 49, 50, 51, 52, 53, 54, 55, 56, 57, 97, 98, 99, 100, 101, 102]⟩ : ByteArray).extract j.val (j.val + 1) = digS j.val := by decide
  exact e ⟨n, h⟩
theorem digitr_any (n : Nat) (w : World) (hn : n < 16) :
    Calls Try.prog 19 #[.int .i64 n] w fun e w' => e = .returned (.string (digS n)) ∧ w = w' := by
  have hd := digS_cut n hn
  go_enter Try.func19, Try.ntmps19
  go_wp2
  go_ret
  exact ⟨rfl, rfl⟩

set_option maxHeartbeats 400000 in
theorem value_any (c : Nat) (w : World) :
    Calls Try.prog 22 #[.int .u8 c] w fun e w' => e = .returned (.int .i64 (hexV c).toNat) ∧ w = w' := by
  go_enter Try.func22, Try.ntmps22
  go_wp2
  go_loop [3] (fun i => ∃ k : Nat, k ≤ 16 ∧ (hexV c < 0 ∨ k ≤ hexV c) ∧ i = .int .i64 k) (fun i => 16 - (intOf i).toNat)
  case atStart => exact ⟨0, by omega, by omega, rfl⟩
  case round =>
    obtain ⟨k, hk, hv, rfl⟩ := hrel
    have hr := hexV_range c
    by_cases hlt : k < 16
    · have hs1 : (digS k).size = 1 := rfl
      have hs0 : ((digS k)[0]'(by rw [hs1]; omega)).toNat = hexN k := hexD_nat k hlt
      by_cases e : c = hexN k
      · have hd := hexV_hexN k hlt
        rw [← e] at hd
        rw [← e] at hs0
        have HD := Lib.hid hd
        clear hv hr hd e
        go_wp2_with (go_at_call 19; refine (digitr_any _ _ hlt).mono ?_; rintro e w3 ⟨rfl, rfl⟩)
        go_ret
        exact ⟨by rw [HD.out]; rfl, rfl⟩
      · have hd := hexV_ne c k e
        have e1 : ((hexN k : Int) == (c : Int)) = false := by
          rw [beq_eq_false_iff_ne]; omega
        go_wp2_with (go_at_call 19; refine (digitr_any _ _ hlt).mono ?_; rintro e w3 ⟨rfl, rfl⟩)
        go_round
        case rel => exact ⟨k + 1, by omega, by omega, by go_num⟩
        case measure => simp [intOf]; omega
    · obtain rfl : k = 16 := by omega
      have hd : hexV c = -1 := by omega
      have HD := Lib.hid hd
      clear hv hr hd
      go_wp2
      go_ret
      exact ⟨by rw [HD.out]; rfl, rfl⟩

theorem str_ne {a b : ByteArray} (h : a ≠ b) : (a.toList == b.toList) = false := by
  rw [beq_eq_false_iff_ne, ByteArray.toList_eq, ByteArray.toList_eq]
  intro e
  exact h (by cases a; cases b; congr 1; exact Array.toList_inj.1 e)
theorem low1 (c : Nat) (h : c < 256) : bits .and .u8 (c : Int) 1 = ((c % 2 : Nat) : Int) := by
  have e := u8_and_nat c 1 h (by omega)
  rw [show c &&& 1 = c % 2 from Nat.and_two_pow_sub_one_eq_mod c 1] at e
  exact e
theorem kind_any (a : ByteArray) (w : World) :
    Calls Try.prog 13 #[.string a] w fun e w' => e = .returned (.int .i64 (kindV a)) ∧ w = w' := by
  unfold kindV
  by_cases h6 : a.size = 6
  · rw [if_neg (by omega)]
    have hz : (a.size : Int) = 6 := by omega
    by_cases hA : a = ⟨#[255, 255, 255, 255, 255, 255]⟩
    · rw [if_pos hA]
      subst hA
      clear h6 hz
      go_enter Try.func13, Try.ntmps13
      go_wp2
      go_ret
      exact ⟨rfl, rfl⟩
    · rw [if_neg hA]
      have hA2 := str_ne hA
      rw [ByteArray.toList_eq ⟨#[255, 255, 255, 255, 255, 255]⟩] at hA2
      have h0 : 0 < a.size := by omega
      rw [bt_in a 0 h0]
      have hl := low1 a[0].toNat (UInt8.toNat_lt _)
      by_cases hb : a[0].toNat % 2 = 1
      · rw [if_pos hb]
        rw [hb] at hl
        clear hb
        go_enter Try.func13, Try.ntmps13
        go_wp2
        go_ret
        exact ⟨rfl, rfl⟩
      · rw [if_neg hb]
        rw [show a[0].toNat % 2 = 0 by omega] at hl
        clear hb
        go_enter Try.func13, Try.ntmps13
        go_wp2
        go_ret
        exact ⟨rfl, rfl⟩
  · rw [if_pos h6]
    go_enter Try.func13, Try.ntmps13
    go_wp2
    go_ret
    exact ⟨rfl, rfl⟩
def allN (a : ByteArray) : Nat → Bool
  | 0 => true
  | k + 1 => allN a k && decide (bt a k = 255)
theorem all6 (a : ByteArray) (h : a.size = 6) : allN a 6 = decide (a = ⟨#[255, 255, 255, 255, 255, 255]⟩) := by
  rw [Bool.eq_iff_iff]
  simp only [allN, Bool.true_and, Bool.and_eq_true, decide_eq_true_eq]
  constructor
  · rintro ⟨⟨⟨⟨⟨h0, h1⟩, h2⟩, h3⟩, h4⟩, h5⟩
    rw [of_list a _ (size6 a h), six, h0, h1, h2, h3, h4, h5]
  · rintro rfl
    decide

theorem kindV_all (a : ByteArray) (h6 : a.size = 6) (h : allN a 6 = true) : kindV a = 3 := by
  rw [all6 a h6] at h
  rw [kindV, if_neg (by omega), if_pos (by simpa using h)]
theorem kindV_bit (a : ByteArray) (h6 : a.size = 6) (h : allN a 6 = false) : kindV a = if (bt a 0).toNat % 2 = 1 then 2 else 1 := by
  rw [all6 a h6] at h
  rw [kindV, if_neg (by omega), if_neg (by simpa using h)]
set_option maxHeartbeats 400000 in
theorem kindr_any (a : ByteArray) (w : World) :
    Calls Try.prog 14 #[.string a] w fun e w' => e = .returned (.int .i64 (kindV a)) ∧ w = w' := by
  by_cases h6 : a.size = 6
  · have hz : (a.size : Int) = 6 := by omega
    go_enter Try.func14, Try.ntmps14
    go_wp2
    go_loop [3, 4] (fun v i => ∃ (k : Nat) (b : Bool), k ≤ 6 ∧ v = .bool b ∧ b = allN a k ∧ i = .int .i64 k) (fun _ i => 6 - (intOf i).toNat)
    case atStart => exact ⟨0, true, by omega, rfl, rfl, rfl⟩
    case round =>
      obtain ⟨k, b, hk, rfl, hb, rfl⟩ := hrel
      by_cases hlt : k < 6
      · have hl : k < a.size := by omega
        have hn : allN a (k + 1) = (allN a k && decide (bt a k = 255)) := rfl
        rw [← hb, bt_in a k hl] at hn
        have HN := Lib.hid hn
        clear hn hb
        cases b
        · go_wp2
          go_round
          case rel => exact ⟨k + 1, false, by omega, rfl, by rw [HN.out]; rfl, by go_num⟩
          case measure => simp [intOf]; omega
        · by_cases h255 : a[k] = 255
          · have e2 : ((a[k].toNat : Int) == 255) = true := by rw [h255]; rfl
            have H255 := Lib.hid h255
            clear h255
            go_wp2
            go_round
            case rel => exact ⟨k + 1, true, by omega, rfl, by rw [HN.out]; simp [H255.out], by go_num⟩
            case measure => simp [intOf]; omega
          · have h2 : a[k].toNat ≠ 255 := fun e => h255 (UInt8.toNat_inj.1 e)
            have e2 : ((a[k].toNat : Int) == 255) = false := by rw [beq_eq_false_iff_ne]; omega
            clear h2
            go_wp2
            go_round
            case rel => exact ⟨k + 1, false, by omega, rfl, by rw [HN.out]; simp [h255], by go_num⟩
            case measure => simp [intOf]; omega
      · obtain rfl : k = 6 := by omega
        cases b
        · have HK := Lib.hid (kindV_bit a h6 hb.symm)
          have h0 : 0 < a.size := by omega
          rw [bt_in a 0 h0] at HK
          clear hb
          have hc := UInt8.toNat_lt a[0]
          by_cases hb : a[0].toNat % 2 = 1
          · rw [if_pos hb] at HK
            have e2 : ((a[0].toNat : Int) % 2) = 1 := by omega
            clear hb
            go_wp2
            go_ret
            exact ⟨by rw [HK.out]; rfl, rfl⟩
          · rw [if_neg hb] at HK
            have e2 : ((a[0].toNat : Int) % 2) = 0 := by omega
            clear hb
            go_wp2
            go_ret
            exact ⟨by rw [HK.out]; rfl, rfl⟩
        · have HK := Lib.hid (kindV_all a h6 hb.symm)
          clear hb
          go_wp2
          go_ret
          exact ⟨by rw [HK.out]; rfl, rfl⟩
  · rw [kindV, if_pos h6]
    go_enter Try.func14, Try.ntmps14
    go_wp2
    go_ret
    exact ⟨rfl, rfl⟩
end Go.Proofs.Ythknggabioadhaa

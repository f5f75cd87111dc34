/-
  What addr.Kind and the document's Kind answer: for every input.
-/
import Derived.Test.YtongkfimgohhbaaRows
import Derived.WalkKit
import Derived.WalkSpells
import Derived.WalkLawsBesides
import Derived.Deep.QuietTactic
import Derived.BigQuiet
import Derived.Lib.Hide
namespace Go.Proofs.Ytongkfimgohhbaa
open Go.RowKit

/-- a byte of a string -/
def bt (s : ByteArray) (i : Nat) : UInt8 := s.data.toList.getD i 0
theorem bt_in (s : ByteArray) (i : Nat) (h : i < s.size) : bt s i = s[i] := by
  have hl : i < s.data.toList.length := h
  unfold bt
  rw [List.getD_eq_getElem?_getD, List.getElem?_eq_getElem hl]
  rfl
theorem bt_lt (s : ByteArray) (i : Nat) : (bt s i).toNat < 256 := UInt8.toNat_lt _

def six (f : Nat → UInt8) : List UInt8 := [f 0, f 1, f 2, f 3, f 4, f 5]
theorem size6 (a : ByteArray) (h : a.size = 6) : a.data.toList = six (bt a) := by
  have hl : a.data.toList.length = 6 := h
  unfold six bt
  match e : a.data.toList, hl with
  | [_, _, _, _, _, _], _ => rfl
theorem of_list (a : ByteArray) (l : List UInt8) (h : a.data.toList = l) : a = ⟨l.toArray⟩ := by
  subst h; rfl
def kindV (a : ByteArray) : Int := if a.size ≠ 6 then 0 else if a = ⟨#[255, 255, 255, 255, 255, 255]⟩ then 3 else if (bt a 0).toNat % 2 = 1 then 2 else 1
theorem str_ne {a b : ByteArray} (h : a ≠ b) : (a.toList == b.toList) = false := by
  rw [beq_eq_false_iff_ne, ByteArray.toList_eq, ByteArray.toList_eq]
  intro e
  exact h (by cases a; cases b; congr 1; exact Array.toList_inj.1 e)
theorem low1u (c : Nat) (h : c < 256) : bits .and .u8 (c : Int) 1 = ((c % 2 : Nat) : Int) := by
  have e := u8_and_nat c 1 h (by omega)
  rw [show c &&& 1 = c % 2 from Nat.and_two_pow_sub_one_eq_mod c 1] at e
  exact e
theorem akind_any (a : ByteArray) (w : World) :
    Calls Try.prog 42 #[.string a] w fun e w' => e = .returned (.int .i64 (kindV a)) ∧ w = w' := by
  unfold kindV
  by_cases h6 : a.size = 6
  · rw [if_neg (by omega)]
    have hz : (a.size : Int) = 6 := by omega
    by_cases hA : a = ⟨#[255, 255, 255, 255, 255, 255]⟩
    · rw [if_pos hA]
      subst hA
      clear h6 hz
      go_enter Try.func42, Try.ntmps42
      go_wp2
      go_ret
      exact ⟨rfl, rfl⟩
    · rw [if_neg hA]
      have hA2 := str_ne hA
      rw [ByteArray.toList_eq ⟨#[255, 255, 255, 255, 255, 255]⟩] at hA2
      have h0 : 0 < a.size := by omega
      rw [bt_in a 0 h0]
      have hl := low1u a[0].toNat (UInt8.toNat_lt _)
      by_cases hb : a[0].toNat % 2 = 1
      · rw [if_pos hb]
        rw [hb] at hl
        clear hb
        go_enter Try.func42, Try.ntmps42
        go_wp2
        go_ret
        exact ⟨rfl, rfl⟩
      · rw [if_neg hb]
        rw [show a[0].toNat % 2 = 0 by omega] at hl
        clear hb
        go_enter Try.func42, Try.ntmps42
        go_wp2
        go_ret
        exact ⟨rfl, rfl⟩
  · rw [if_pos h6]
    go_enter Try.func42, Try.ntmps42
    go_wp2
    go_ret
    exact ⟨rfl, rfl⟩
def allN (a : ByteArray) : Nat → Bool
  | 0 => true
  | k + 1 => allN a k && decide (bt a k = 255)
theorem all6 (a : ByteArray) (h : a.size = 6) : allN a 6 = decide (a = ⟨#[255, 255, 255, 255, 255, 255]⟩) := by
  rw [Bool.eq_iff_iff]
  simp only [allN, Bool.true_and, Bool.and_eq_true, decide_eq_true_eq]
  constructor
  · rintro ⟨⟨⟨⟨⟨h0, h1⟩, h2⟩, h3⟩, h4⟩, h5⟩
    rw [of_list a _ (size6 a h), six, h0, h1, h2, h3, h4, h5]
  · rintro rfl
    decide

theorem kindV_all (a : ByteArray) (h6 : a.size = 6) (h : allN a 6 = true) : kindV a = 3 := by
  rw [all6 a h6] at h
  rw [kindV, if_neg (by omega), if_pos (by simpa using h)]
theorem kindV_bit (a : ByteArray) (h6 : a.size = 6) (h : allN a 6 = false) : kindV a = if (bt a 0).toNat % 2 = 1 then 2 else 1 := by
  rw [all6 a h6] at h
  rw [kindV, if_neg (by omega), if_neg (by simpa using h)]
set_option maxHeartbeats 400000 in
theorem rkind_any (a : ByteArray) (w : World) :
    Calls Try.prog 49 #[.string a] w fun e w' => e = .returned (.int .i64 (kindV a)) ∧ w = w' := by
  by_cases h6 : a.size = 6
  · have hz : (a.size : Int) = 6 := by omega
    go_enter Try.func49, Try.ntmps49
    go_wp2
    go_loop [3, 4] (fun v i => ∃ (k : Nat) (b : Bool), k ≤ 6 ∧ v = .bool b ∧ b = allN a k ∧ i = .int .i64 k) (fun _ i => 6 - (intOf i).toNat)
    case atStart => exact ⟨0, true, by omega, rfl, rfl, rfl⟩
    case round =>
      obtain ⟨k, b, hk, rfl, hb, rfl⟩ := hrel
      by_cases hlt : k < 6
      · have hl : k < a.size := by omega
        have hn : allN a (k + 1) = (allN a k && decide (bt a k = 255)) := rfl
        rw [← hb, bt_in a k hl] at hn
        have HN := Lib.hid hn
        clear hn hb
        cases b
        · go_wp2
          go_round
          case rel => exact ⟨k + 1, false, by omega, rfl, by rw [HN.out]; rfl, by go_num⟩
          case measure => simp [intOf]; omega
        · by_cases h255 : a[k] = 255
          · have e2 : ((a[k].toNat : Int) == 255) = true := by rw [h255]; rfl
            have H255 := Lib.hid h255
            clear h255
            go_wp2
            go_round
            case rel => exact ⟨k + 1, true, by omega, rfl, by rw [HN.out]; simp [H255.out], by go_num⟩
            case measure => simp [intOf]; omega
          · have h2 : a[k].toNat ≠ 255 := fun e => h255 (UInt8.toNat_inj.1 e)
            have e2 : ((a[k].toNat : Int) == 255) = false := by rw [beq_eq_false_iff_ne]; omega
            clear h2
            go_wp2
            go_round
            case rel => exact ⟨k + 1, false, by omega, rfl, by rw [HN.out]; simp [h255], by go_num⟩
            case measure => simp [intOf]; omega
      · obtain rfl : k = 6 := by omega
        cases b
        · have HK := Lib.hid (kindV_bit a h6 hb.symm)
          have h0 : 0 < a.size := by omega
          rw [bt_in a 0 h0] at HK
          clear hb
          have hc := UInt8.toNat_lt a[0]
          by_cases hb : a[0].toNat % 2 = 1
          · rw [if_pos hb] at HK
            have e2 : ((a[0].toNat : Int) % 2) = 1 := by omega
            clear hb
            go_wp2
            go_ret
            exact ⟨by rw [HK.out]; rfl, rfl⟩
          · rw [if_neg hb] at HK
            have e2 : ((a[0].toNat : Int) % 2) = 0 := by omega
            clear hb
            go_wp2
            go_ret
            exact ⟨by rw [HK.out]; rfl, rfl⟩
        · have HK := Lib.hid (kindV_all a h6 hb.symm)
          clear hb
          go_wp2
          go_ret
          exact ⟨by rw [HK.out]; rfl, rfl⟩
  · rw [kindV, if_pos h6]
    go_enter Try.func49, Try.ntmps49
    go_wp2
    go_ret
    exact ⟨rfl, rfl⟩
end Go.Proofs.Ytongkfimgohhbaa

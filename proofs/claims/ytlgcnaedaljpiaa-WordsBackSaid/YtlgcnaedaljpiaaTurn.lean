/-
  What words.Turn answers, for every string of at most 2 to the 48 bytes: its bytes in reverse order.
-/
import Derived.Test.YtlgcnaedaljpiaaBytes
namespace Go.Proofs.Ytlgcnaedaljpiaa
open Go.RowKit

def turnS (s : ByteArray) : ByteArray := ⟨s.data.toList.reverse.toArray⟩
def revl (s : ByteArray) : List UInt8 := s.data.toList.reverse
theorem revl_length (s : ByteArray) : (revl s).length = s.size := by unfold revl; rw [List.length_reverse]; rfl
theorem revl_get (s : ByteArray) (k : Nat) (hk : k < s.size) : (revl s)[s.size - 1 - k]'(by rw [revl_length]; omega) = s[k] := by
  have e0 : s.data.toList.length = s.size := rfl
  have e : s.data.toList.length - 1 - (s.size - 1 - k) = k := by omega
  simp only [revl, List.getElem_reverse, e]; rfl

set_option maxHeartbeats 400000 in
theorem turn_any (s : ByteArray) (w : World) (hs : s.size ≤ 281474976710656) :
    Calls Try.prog 16 #[.string s] w fun e w' => e = .returned (.string (turnS s)) ∧ Below w.heap.size w w' := by
  obtain ⟨i0, hi, hz0, hz1, hz2⟩ := info_parts Try.info5
  have HI := Lib.hid hi
  have HZ0 := Lib.hid hz0
  have HZ1 := Lib.hid hz1
  have HZ2 := Lib.hid hz2
  clear hi hz0 hz1 hz2
  go_enter Try.func16, Try.ntmps16
  go_wp2_with (at_make; refine wpList_make_full _ rfl (.tmp 6) (.tmp 6) 36 rfl w.heap.size 5 i0 (.int .u8 0) 1 Try.underlying36 HI.out HZ0.out HZ1.out .i64 .i64 s.size s.size s.size rfl rfl rfl rfl (by rw [HZ2.out]; omega) (by unfold maxLen; omega) (Nat.le_refl _) ?_; intro w1 hrow hgrow)
  have hl := revl_length s
  have hst := Fill.start hl hrow hgrow
  have HL := Lib.hid hl
  clear hl hrow hgrow
  go_loopw [10] (fun i wr => ∃ k : Nat, k ≤ s.size ∧ i = .int .i64 k ∧ Fill w.heap.size (revl s) (fun j => s.size - k ≤ j) w wr) (fun i _ => s.size - (intOf i).toNat)
  case atStart => exact ⟨0, Nat.zero_le _, rfl, hst.mono (fun j hj h => by rw [HL.out] at hj; omega)⟩
  case round =>
    obtain ⟨k, hk, rfl, hfill⟩ := hrel
    clear hst
    by_cases hlt : k < s.size
    · obtain ⟨m, hm⟩ : ∃ m : Nat, m = s.size - 1 - k := ⟨_, rfl⟩
      have em : (s.size : Int) - 1 - k = m := by omega
      have hml : m < s.size := by omega
      obtain ⟨u, hcell⟩ := hfill.cell m (by rw [HL.out]; exact hml)
      have hfree := hfill.free m
      have HM := Lib.hid hm
      clear hm
      go_wp2
      go_roundw
      case rel =>
        refine ⟨k + 1, by omega, by go_num, ?_⟩
        obtain rfl := HM.out
        have hs := hfill.step (s.size - 1 - k) (by rw [HL.out]; exact hml)
        rw [revl_get s k hlt] at hs
        exact hs.mono (fun j _ h => by omega)
      case measure => simp [intOf]; omega
    · obtain rfl : k = s.size := by omega
      have hfull : Fill w.heap.size (revl s) (fun _ => True) w wr := hfill.mono (fun j hj _ => by omega)
      have hconv := hfull.text s.size
      rw [HL.out] at hconv
      go_wp2
      go_ret
      exact ⟨rfl, hfull.below⟩
end Go.Proofs.Ytlgcnaedaljpiaa

/-
  control's encoders: put, command and the commands' bytes; no condition but the lengths of what comes in.
-/
import Derived.Test.YtongkfimgohhbaaPut
import Derived.Test.YtongkfimgohhbaaJn
import Derived.Test.YtongkfimgohhbaaAp
namespace Go.Proofs.Ytongkfimgohhbaa
open Go.RowKit

theorem fits_any (v : Int) (n : Nat) (w : World) (h0 : 0 ≤ v) (h1 : 1 ≤ n) (h2 : n ≤ 8) :
    Calls Try.prog 71 #[.int .u64 v, .int .i64 n] w fun e w' => e = .returned (.bool (decide (v < 256 ^ n))) ∧ w = w' := by
  go_enter Try.func71, Try.ntmps71
  go_wp2
  go_ret
  refine ⟨ret_bool ?_, rfl⟩
  show (v / 2 ^ (8 * (n : Int)).toNat == 0) = _
  rw [pow_bytes]
  have hp : (0 : Int) < 256 ^ n := Int.pow_pos (by decide)
  rw [Bool.eq_iff_iff]
  simp only [beq_iff_eq, decide_eq_true_eq]
  constructor
  · intro h
    have := Int.lt_mul_ediv_self_add (x := v) hp; rw [h] at this; simpa using this
  · intro h; exact Int.ediv_eq_zero_of_lt h0 h
set_option maxHeartbeats 400000 in
theorem put_ok (v n : Nat) (big : Bool) (w : World) (h1 : 1 ≤ n) (h2 : n ≤ 8) (hv : v < 256 ^ n) :
    Calls Try.prog 58 #[.int .u64 v, .int .i64 n, .bool big] w fun e w' => e = .returned (.tuple #[.string ⟨(enc v n big).toArray⟩, .int .i64 0]) ∧ Below w.heap.size w w' := by
  have hf : decide ((v : Int) < 256 ^ n) = true := by
    have : ((256 ^ n : Nat) : Int) = 256 ^ n := by simp
    rw [← this]; exact decide_eq_true (by omega)
  have hfit := fun w => fits_any v n w (by omega) h1 h2
  rw [hf] at hfit
  have HF := Lib.hid hfit
  clear hfit hf
  have HV := Lib.hid hv
  clear hv
  obtain ⟨i0, hi, hz0, hz1, hz2⟩ := info_parts Try.info5
  have HI := Lib.hid hi
  have HZ0 := Lib.hid hz0
  have HZ1 := Lib.hid hz1
  have HZ2 := Lib.hid hz2
  clear hi hz0 hz1 hz2
  go_enter Try.func58, Try.ntmps58
  go_wp2_with (first
    | (go_at_call 70; refine (isSize_yes _ _ (by omega) (by omega)).mono ?_; rintro e w' ⟨rfl, rfl⟩)
    | (go_at_call 71; refine (HF.out _).mono ?_; rintro e w' ⟨rfl, rfl⟩)
    | (at_make; refine wpList_make_full _ rfl (.tmp 19) (.tmp 19) 69 rfl w.heap.size 5 i0 (.int .u8 0) 1 Try.underlying69 HI.out HZ0.out HZ1.out .i64 .i64 n n n rfl rfl rfl rfl (by rw [HZ2.out]; omega) (by unfold maxLen; omega) (Nat.le_refl _) ?_; intro w1 hrow hgrow))
  have hl := enc_length v n big
  have hst := Fill.start hl hrow hgrow
  have HL := Lib.hid hl
  clear hl hrow hgrow
  go_loopw [22] (fun i wr => ∃ k : Nat, k ≤ n ∧ i = .int .i64 k ∧ Fill w.heap.size (enc v n big) (fun j => j < k) w wr) (fun i _ => n - (intOf i).toNat)
  case atStart => exact ⟨0, Nat.zero_le _, rfl, hst.mono (fun _ _ h => by omega)⟩
  case round =>
    obtain ⟨k, hk, rfl, hfill⟩ := hrel
    clear hst
    by_cases hlt : k < n
    · obtain ⟨u, hcell⟩ := hfill.cell k (by rw [HL.out]; exact hlt)
      have hfree := hfill.free k
      have hp : plc n k big ≤ 7 := by cases big <;> simp [plc] <;> omega
      go_wp2_with (go_at_call 72; refine (shift_any _ _ _ _ hlt h2).mono ?_; rintro e w' ⟨rfl, rfl⟩)
      go_roundw
      case rel =>
        refine ⟨k + 1, by omega, by go_num, ?_⟩
        have hs := hfill.step k (by rw [HL.out]; exact hlt)
        rw [← byte_round v n k big hlt] at hs
        exact hs.mono (fun j _ h => by omega)
      case measure => simp [intOf]; omega
    · obtain rfl : k = n := by omega
      have hfull : Fill w.heap.size (enc v k big) (fun _ => True) w wr := hfill.mono (fun j hj _ => by rw [HL.out] at hj; exact hj)
      have hconv := hfull.text k
      rw [HL.out] at hconv
      go_wp2
      go_ret2
      exact ⟨rfl, hfull.below⟩
/-- the n lowest bytes of a number -/
def lowL (v : Int) (n : Nat) : List UInt8 := digs (v % 256 ^ n).toNat n
def lowS (v : Int) (n : Nat) : ByteArray := ⟨(lowL v n).toArray⟩
theorem lowL_length (v : Int) (n : Nat) : (lowL v n).length = n := digs_length _ _
theorem lowS_size (v : Int) (n : Nat) : (lowS v n).size = n := lowL_length v n
theorem and_1 (v : Int) : bits .and .u64 (IntKind.u64.wrap v) 255 = ((v % 256 ^ 1).toNat : Int) := by
  have e : (BitVec.ofInt 64 255).toNat = 2 ^ 8 - 1 := by decide
  have k : (BitVec.ofInt 64 (IntKind.u64.wrap v) &&& BitVec.ofInt 64 255).toNat = (IntKind.u64.wrap v % ((2 ^ 64 : Nat) : Int)).toNat % 2 ^ 8 := by
    rw [BitVec.toNat_and, BitVec.toNat_ofInt, e, Nat.and_two_pow_sub_one_eq_mod]
  show IntKind.u64.wrap ((BitVec.ofInt 64 (IntKind.u64.wrap v) &&& BitVec.ofInt 64 255).toNat : Nat) = _
  rw [k]
  simp only [IntKind.wrap_u64]
  omega
theorem cput_1 (v : Int) (w : World) :
    Calls Try.prog 40 #[.int .i64 v, .int .i64 1] w fun e w' => e = .returned (.string (lowS v 1)) ∧ Below w.heap.size w w' := by
  have A1 := fun W => put_ok (v % 256 ^ 1).toNat 1 false W (by omega) (by omega) (by omega)
  have hx := and_1 v
  have e1 : (⟨(enc (v % 256 ^ 1).toNat 1 false).toArray⟩ : ByteArray) = lowS v 1 := rfl
  rw [e1] at A1
  generalize lowS v 1 = q at *
  generalize (v % 256 ^ 1).toNat = x at *
  have H1 := Lib.hid A1
  clear A1 e1
  go_enter Try.func40, Try.ntmps40
  go_wp2_with fail
  refine (H1.out _).mono ?_
  rintro e w1 ⟨rfl, hq⟩
  have HQ := Lib.hid hq
  clear hq
  go_wp2
  go_ret
  exact ⟨rfl, HQ.out⟩
theorem and_2 (v : Int) : bits .and .u64 (IntKind.u64.wrap v) 65535 = ((v % 256 ^ 2).toNat : Int) := by
  have e : (BitVec.ofInt 64 65535).toNat = 2 ^ 16 - 1 := by decide
  have k : (BitVec.ofInt 64 (IntKind.u64.wrap v) &&& BitVec.ofInt 64 65535).toNat = (IntKind.u64.wrap v % ((2 ^ 64 : Nat) : Int)).toNat % 2 ^ 16 := by
    rw [BitVec.toNat_and, BitVec.toNat_ofInt, e, Nat.and_two_pow_sub_one_eq_mod]
  show IntKind.u64.wrap ((BitVec.ofInt 64 (IntKind.u64.wrap v) &&& BitVec.ofInt 64 65535).toNat : Nat) = _
  rw [k]
  simp only [IntKind.wrap_u64]
  omega
theorem cput_2 (v : Int) (w : World) :
    Calls Try.prog 40 #[.int .i64 v, .int .i64 2] w fun e w' => e = .returned (.string (lowS v 2)) ∧ Below w.heap.size w w' := by
  have A1 := fun W => put_ok (v % 256 ^ 2).toNat 2 false W (by omega) (by omega) (by omega)
  have hx := and_2 v
  have e1 : (⟨(enc (v % 256 ^ 2).toNat 2 false).toArray⟩ : ByteArray) = lowS v 2 := rfl
  rw [e1] at A1
  generalize lowS v 2 = q at *
  generalize (v % 256 ^ 2).toNat = x at *
  have H1 := Lib.hid A1
  clear A1 e1
  go_enter Try.func40, Try.ntmps40
  go_wp2_with fail
  refine (H1.out _).mono ?_
  rintro e w1 ⟨rfl, hq⟩
  have HQ := Lib.hid hq
  clear hq
  go_wp2
  go_ret
  exact ⟨rfl, HQ.out⟩
theorem and_4 (v : Int) : bits .and .u64 (IntKind.u64.wrap v) 4294967295 = ((v % 256 ^ 4).toNat : Int) := by
  have e : (BitVec.ofInt 64 4294967295).toNat = 2 ^ 32 - 1 := by decide
  have k : (BitVec.ofInt 64 (IntKind.u64.wrap v) &&& BitVec.ofInt 64 4294967295).toNat = (IntKind.u64.wrap v % ((2 ^ 64 : Nat) : Int)).toNat % 2 ^ 32 := by
    rw [BitVec.toNat_and, BitVec.toNat_ofInt, e, Nat.and_two_pow_sub_one_eq_mod]
  show IntKind.u64.wrap ((BitVec.ofInt 64 (IntKind.u64.wrap v) &&& BitVec.ofInt 64 4294967295).toNat : Nat) = _
  rw [k]
  simp only [IntKind.wrap_u64]
  omega
theorem cput_4 (v : Int) (w : World) :
    Calls Try.prog 40 #[.int .i64 v, .int .i64 4] w fun e w' => e = .returned (.string (lowS v 4)) ∧ Below w.heap.size w w' := by
  have A1 := fun W => put_ok (v % 256 ^ 4).toNat 4 false W (by omega) (by omega) (by omega)
  have hx := and_4 v
  have e1 : (⟨(enc (v % 256 ^ 4).toNat 4 false).toArray⟩ : ByteArray) = lowS v 4 := rfl
  rw [e1] at A1
  generalize lowS v 4 = q at *
  generalize (v % 256 ^ 4).toNat = x at *
  have H1 := Lib.hid A1
  clear A1 e1
  go_enter Try.func40, Try.ntmps40
  go_wp2_with fail
  refine (H1.out _).mono ?_
  rintro e w1 ⟨rfl, hq⟩
  have HQ := Lib.hid hq
  clear hq
  go_wp2
  go_ret
  exact ⟨rfl, HQ.out⟩
end Go.Proofs.Ytongkfimgohhbaa

/-
  A packet, taken apart; what ip's small functions answer (get, put, isFrom0To, isOptions, isCommon, isPacket4, isPacket6, reader and its closure): for all numbers; strings within the language's own length.
-/
import Derived.Test.YtpjndjmneficbaaBuild
import Derived.Test.YtpjndjmneficbaaSet
import Derived.Lib.Hide
namespace Go.Proofs.Ytpjndjmneficbaa
open Go.RowKit

/-- A packet, taken apart. -/
structure Pk where
  v : Int
  src : ByteArray
  dst : ByteArray
  proto : Int
  hops : Int
  cls : Int
  id : Int
  flags : Int
  off : Int
  label : Int
  opt : ByteArray
  body : ByteArray
def pkC (p : Pk) : Array Value := #[.int .i64 p.v, .string p.src, .string p.dst, .int .i64 p.proto, .int .i64 p.hops, .int .i64 p.cls, .int .i64 p.id, .int .i64 p.flags, .int .i64 p.off, .int .i64 p.label, .string p.opt, .string p.body]
def Pk.val (p : Pk) : Value := .agg (pkC p)
def Pk.zero : Pk := ⟨0, ⟨#[]⟩, ⟨#[]⟩, 0, 0, 0, 0, 0, 0, 0, ⟨#[]⟩, ⟨#[]⟩⟩
/-- The bytes of a number, the most significant first. -/
def bs (v : Int) (n : Nat) : ByteArray := ⟨(enc v.toNat n true).toArray⟩
theorem bs_size (v : Int) (n : Nat) : (bs v n).size = n := by
  show (enc v.toNat n true).toArray.size = n
  simp [enc_length]
/-- The number in n bytes of s from a on. -/
def nat (s : ByteArray) (a n : Nat) : Nat := dec (cutl s a n) true
theorem nat_lt (s : ByteArray) (a n : Nat) : nat s a n < 256 ^ n := by
  have h := dec_lt (cutl s a n) true
  have h2 : (cutl s a n).length ≤ n := by simp [cutl]; omega
  have h3 : 256 ^ (cutl s a n).length ≤ 256 ^ n := Nat.pow_le_pow_right (by decide) h2
  unfold nat; omega
theorem cutl_cut (s : ByteArray) (a b n k : Nat) (h : b + k ≤ n) : cutl (s.extract a (a + n)) b k = cutl s (a + b) k := by
  unfold cutl
  rw [ByteArray.data_extract, Array.toList_extract, List.extract_eq_take_drop, List.drop_take, List.take_take, List.drop_drop]
  congr 1
  omega
theorem nat_cut (s : ByteArray) (a b n k : Nat) (h : b + k ≤ n) : nat (s.extract a (a + n)) b k = nat s (a + b) k := by
  unfold nat; rw [cutl_cut s a b n k h]

theorem get4_any (s : ByteArray) (n : Nat) (w : World) (h : s.size = n) (h1 : 1 ≤ n) (h2 : n ≤ 4) :
    Calls Try.prog 66 #[.string s] w fun e w' => e = .returned (.int .i64 (nat s 0 n)) ∧ Below w.heap.size w w' := by
  have hlt := nat_lt s 0 n
  have hp : 256 ^ n ≤ 256 ^ 4 := Nat.pow_le_pow_right (by decide) h2
  have G := fun W => get_ok s 0 n true W (by rw [h]; unfold maxLen; omega) (by omega) (by omega) (by omega)
  change ∀ W, Calls Try.prog 73 #[.string s, .int .i64 0, .int .i64 n, .bool true] W fun e w' => e = .returned (.tuple #[.int .u64 (nat s 0 n), .int .i64 0]) ∧ Below W.heap.size W w' at G
  have HG := Lib.hid G
  have hX : nat s 0 n < 4294967296 := by omega
  clear G hlt hp
  generalize nat s 0 n = X at *
  go_enter Try.func66, Try.ntmps66
  go_wp2_with (go_at_call 73; (with_reducible refine (HG.out _).mono ?_); rintro e w' ⟨rfl, hb⟩)
  go_ret
  exact ⟨rfl, hb⟩

theorem low_all (v : Int) (j : Nat) (m : Int) (hj : j ≤ 32) (hm : m = ((2 ^ j - 1 : Nat) : Int)) (h0 : 0 ≤ v) (h1 : v ≤ m) : bits .and .u64 v m = v := by
  subst hm
  obtain ⟨k, rfl⟩ := Int.eq_ofNat_of_zero_le h0
  have hp : 0 < 2 ^ j := Nat.pow_pos (by decide)
  have h2 : 2 ^ j ≤ 2 ^ 32 := Nat.pow_le_pow_right (by decide) hj
  have hk : k < 2 ^ j := by omega
  show IntKind.u64.wrap ((BitVec.ofInt 64 (k : Int) &&& BitVec.ofInt 64 ((2 ^ j - 1 : Nat) : Int)).toNat : Nat) = _
  rw [BitVec.toNat_and, BitVec.ofInt_natCast, BitVec.ofInt_natCast, BitVec.toNat_ofNat, BitVec.toNat_ofNat, Nat.mod_eq_of_lt (a := k) (by omega), Nat.mod_eq_of_lt (a := 2 ^ j - 1) (by omega), Nat.and_two_pow_sub_one_eq_mod, Nat.mod_eq_of_lt hk, IntKind.wrap_u64]
  omega
end Go.Proofs.Ytpjndjmneficbaa

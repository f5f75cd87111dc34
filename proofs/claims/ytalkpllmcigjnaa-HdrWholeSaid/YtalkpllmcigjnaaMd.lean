/-
  Packets: what ip.Parse answers.
-/
import Derived.Test.YtalkpllmcigjnaaMc
import Derived.Test.YtalkpllmcigjnaaMa
import Derived.Lib.Hide
import Derived.Test.YtalkpllmcigjnaaMb
namespace Go.Proofs.Ytalkpllmcigjnaa
open Go.RowKit

/-- A packet, taken apart. -/
structure Pk where
  v : Int
  src : ByteArray
  dst : ByteArray
  proto : Int
  hops : Int
  cls : Int
  id : Int
  flags : Int
  off : Int
  label : Int
  opt : ByteArray
  body : ByteArray
def pkC (p : Pk) : Array Value := #[.int .i64 p.v, .string p.src, .string p.dst, .int .i64 p.proto, .int .i64 p.hops, .int .i64 p.cls, .int .i64 p.id, .int .i64 p.flags, .int .i64 p.off, .int .i64 p.label, .string p.opt, .string p.body]
def Pk.val (p : Pk) : Value := .agg (pkC p)
def Pk.zero : Pk := ⟨0, ⟨#[]⟩, ⟨#[]⟩, 0, 0, 0, 0, 0, 0, 0, ⟨#[]⟩, ⟨#[]⟩⟩
/-- The bytes of a number, the most significant first. -/
def bs (v : Int) (n : Nat) : ByteArray := ⟨(enc v.toNat n true).toArray⟩
theorem bs_size (v : Int) (n : Nat) : (bs v n).size = n := by
  show (enc v.toNat n true).toArray.size = n
  simp [enc_length]
/-- The number in n bytes of s from a on. -/
def nat (s : ByteArray) (a n : Nat) : Nat := dec (cutl s a n) true
theorem nat_lt (s : ByteArray) (a n : Nat) : nat s a n < 256 ^ n := by
  have h := dec_lt (cutl s a n) true
  have h2 : (cutl s a n).length ≤ n := by simp [cutl]; omega
  have h3 : 256 ^ (cutl s a n).length ≤ 256 ^ n := Nat.pow_le_pow_right (by decide) h2
  unfold nat; omega
theorem cutl_cut (s : ByteArray) (a b n k : Nat) (h : b + k ≤ n) : cutl (s.extract a (a + n)) b k = cutl s (a + b) k := by
  unfold cutl
  rw [ByteArray.data_extract, Array.toList_extract, List.extract_eq_take_drop, List.drop_take, List.take_take, List.drop_drop]
  congr 1
  omega
theorem nat_cut (s : ByteArray) (a b n k : Nat) (h : b + k ≤ n) : nat (s.extract a (a + n)) b k = nat s (a + b) k := by
  unfold nat; rw [cutl_cut s a b n k h]

theorem get4_any (s : ByteArray) (n : Nat) (w : World) (h : s.size = n) (h1 : 1 ≤ n) (h2 : n ≤ 4) :
    Calls Try.prog 114 #[.string s] w fun e w' => e = .returned (.int .i64 (nat s 0 n)) ∧ Below w.heap.size w w' := by
  have hlt := nat_lt s 0 n
  have hp : 256 ^ n ≤ 256 ^ 4 := Nat.pow_le_pow_right (by decide) h2
  have G := fun W => get_ok s 0 n true W (by rw [h]; unfold maxLen; omega) (by omega) (by omega) (by omega)
  change ∀ W, Calls Try.prog 56 #[.string s, .int .i64 0, .int .i64 n, .bool true] W fun e w' => e = .returned (.tuple #[.int .u64 (nat s 0 n), .int .i64 0]) ∧ Below W.heap.size W w' at G
  have HG := Lib.hid G
  have hX : nat s 0 n < 4294967296 := by omega
  clear G hlt hp
  generalize nat s 0 n = X at *
  go_enter Try.func114, Try.ntmps114
  go_wp2_with (go_at_call 56; (with_reducible refine (HG.out _).mono ?_); rintro e w' ⟨rfl, hb⟩)
  go_ret
  exact ⟨rfl, hb⟩

theorem low_all (v : Int) (j : Nat) (m : Int) (hj : j ≤ 32) (hm : m = ((2 ^ j - 1 : Nat) : Int)) (h0 : 0 ≤ v) (h1 : v ≤ m) : bits .and .u64 v m = v := by
  subst hm
  obtain ⟨k, rfl⟩ := Int.eq_ofNat_of_zero_le h0
  have hp : 0 < 2 ^ j := Nat.pow_pos (by decide)
  have h2 : 2 ^ j ≤ 2 ^ 32 := Nat.pow_le_pow_right (by decide) hj
  have hk : k < 2 ^ j := by omega
  show IntKind.u64.wrap ((BitVec.ofInt 64 (k : Int) &&& BitVec.ofInt 64 ((2 ^ j - 1 : Nat) : Int)).toNat : Nat) = _
  rw [BitVec.toNat_and, BitVec.ofInt_natCast, BitVec.ofInt_natCast, BitVec.toNat_ofNat, BitVec.toNat_ofNat, Nat.mod_eq_of_lt (a := k) (by omega), Nat.mod_eq_of_lt (a := 2 ^ j - 1) (by omega), Nat.and_two_pow_sub_one_eq_mod, Nat.mod_eq_of_lt hk, IntKind.wrap_u64]
  omega
theorem put4_1 (v : Int) (w : World) (h0 : 0 ≤ v) (h1 : v < 256) :
    Calls Try.prog 71 #[.int .i64 v, .int .i64 1] w fun e w' => e = .returned (.string (bs v 1)) ∧ Below w.heap.size w w' := by
  have hl : bits .and .u64 v 255 = v := low_all v 8 _ (by omega) rfl h0 (by omega)
  have P : ∀ W, Calls Try.prog 58 #[.int .u64 v, .int .i64 1, .bool true] W fun e w' => e = .returned (.tuple #[.string (bs v 1), .int .i64 0]) ∧ Below W.heap.size W w' := by
    intro W
    obtain ⟨m, rfl⟩ := Int.eq_ofNat_of_zero_le h0
    exact put_ok m 1 true W (by omega) (by omega) (by omega)
  have HP := Lib.hid P
  clear P
  generalize bs v 1 = T at *
  go_enter Try.func71, Try.ntmps71
  go_wp2_with (go_at_call 58; (with_reducible refine (HP.out _).mono ?_); rintro e w' ⟨rfl, hb⟩)
  go_ret
  exact ⟨rfl, hb⟩
theorem put4_2 (v : Int) (w : World) (h0 : 0 ≤ v) (h1 : v < 65536) :
    Calls Try.prog 71 #[.int .i64 v, .int .i64 2] w fun e w' => e = .returned (.string (bs v 2)) ∧ Below w.heap.size w w' := by
  have hl : bits .and .u64 v 65535 = v := low_all v 16 _ (by omega) rfl h0 (by omega)
  have P : ∀ W, Calls Try.prog 58 #[.int .u64 v, .int .i64 2, .bool true] W fun e w' => e = .returned (.tuple #[.string (bs v 2), .int .i64 0]) ∧ Below W.heap.size W w' := by
    intro W
    obtain ⟨m, rfl⟩ := Int.eq_ofNat_of_zero_le h0
    exact put_ok m 2 true W (by omega) (by omega) (by omega)
  have HP := Lib.hid P
  clear P
  generalize bs v 2 = T at *
  go_enter Try.func71, Try.ntmps71
  go_wp2_with (go_at_call 58; (with_reducible refine (HP.out _).mono ?_); rintro e w' ⟨rfl, hb⟩)
  go_ret
  exact ⟨rfl, hb⟩
theorem put4_3 (v : Int) (w : World) (h0 : 0 ≤ v) (h1 : v < 16777216) :
    Calls Try.prog 71 #[.int .i64 v, .int .i64 3] w fun e w' => e = .returned (.string (bs v 3)) ∧ Below w.heap.size w w' := by
  have hl : bits .and .u64 v 16777215 = v := low_all v 24 _ (by omega) rfl h0 (by omega)
  have P : ∀ W, Calls Try.prog 58 #[.int .u64 v, .int .i64 3, .bool true] W fun e w' => e = .returned (.tuple #[.string (bs v 3), .int .i64 0]) ∧ Below W.heap.size W w' := by
    intro W
    obtain ⟨m, rfl⟩ := Int.eq_ofNat_of_zero_le h0
    exact put_ok m 3 true W (by omega) (by omega) (by omega)
  have HP := Lib.hid P
  clear P
  generalize bs v 3 = T at *
  go_enter Try.func71, Try.ntmps71
  go_wp2_with (go_at_call 58; (with_reducible refine (HP.out _).mono ?_); rintro e w' ⟨rfl, hb⟩)
  go_ret
  exact ⟨rfl, hb⟩
theorem put4_4 (v : Int) (w : World) (h0 : 0 ≤ v) (h1 : v < 4294967296) :
    Calls Try.prog 71 #[.int .i64 v, .int .i64 4] w fun e w' => e = .returned (.string (bs v 4)) ∧ Below w.heap.size w w' := by
  have hl : bits .and .u64 v 4294967295 = v := low_all v 32 _ (by omega) rfl h0 (by omega)
  have P : ∀ W, Calls Try.prog 58 #[.int .u64 v, .int .i64 4, .bool true] W fun e w' => e = .returned (.tuple #[.string (bs v 4), .int .i64 0]) ∧ Below W.heap.size W w' := by
    intro W
    obtain ⟨m, rfl⟩ := Int.eq_ofNat_of_zero_le h0
    exact put_ok m 4 true W (by omega) (by omega) (by omega)
  have HP := Lib.hid P
  clear P
  generalize bs v 4 = T at *
  go_enter Try.func71, Try.ntmps71
  go_wp2_with (go_at_call 58; (with_reducible refine (HP.out _).mono ?_); rintro e w' ⟨rfl, hb⟩)
  go_ret
  exact ⟨rfl, hb⟩
end Go.Proofs.Ytalkpllmcigjnaa
namespace Go.Proofs.Ytalkpllmcigjnaa
open Go.RowKit

/-- A variable in its block, and all else as it was. -/
structure Held (w0 : World) (t : TypeId) (cs : Array Value) (w : World) : Prop where
  blk : Blk w w0.heap.size t cs
  below : Below w0.heap.size w0 w
theorem Held.new (w : World) (t : TypeId) (cs : Array Value) : Held w t cs (w.alloc (.cells cs t)) := ⟨Blk.new w t _, (Below.refl _ _).alloc (Nat.le_refl _) _⟩
theorem Held.next {w w1 w' : World} {t : TypeId} {cs : Array Value} (h : Held w t cs w1) (hq : Below w1.heap.size w1 w') : Held w t cs w' :=
  ⟨h.blk.same (hq.block _ h.blk.lt), h.below.trans (hq.mono (by have := h.blk.lt; omega))⟩
theorem Held.drew {w w1 : World} {t : TypeId} {cs : Array Value} (h : Held w t cs w1) : Held w t cs w1.drew := ⟨h.blk, h.below.drew⟩
theorem pk_cells {w0 w : World} {v : Int} {src dst : ByteArray} {proto hops cls id flags off label : Int} {opt body : ByteArray} (h : Held w0 36 #[.int .i64 v, .string src, .string dst, .int .i64 proto, .int .i64 hops, .int .i64 cls, .int .i64 id, .int .i64 flags, .int .i64 off, .int .i64 label, .string opt, .string body] w) :
    w.cell? ⟨w0.heap.size, 0, none⟩ = some (.int .i64 v) ∧ w.cell? ⟨w0.heap.size, 1, none⟩ = some (.string src) ∧ w.cell? ⟨w0.heap.size, 2, none⟩ = some (.string dst) ∧ w.cell? ⟨w0.heap.size, 3, none⟩ = some (.int .i64 proto) ∧ w.cell? ⟨w0.heap.size, 4, none⟩ = some (.int .i64 hops) ∧ w.cell? ⟨w0.heap.size, 5, none⟩ = some (.int .i64 cls) ∧ w.cell? ⟨w0.heap.size, 6, none⟩ = some (.int .i64 id) ∧ w.cell? ⟨w0.heap.size, 7, none⟩ = some (.int .i64 flags) ∧ w.cell? ⟨w0.heap.size, 8, none⟩ = some (.int .i64 off) ∧ w.cell? ⟨w0.heap.size, 9, none⟩ = some (.int .i64 label) ∧ w.cell? ⟨w0.heap.size, 10, none⟩ = some (.string opt) ∧ w.cell? ⟨w0.heap.size, 11, none⟩ = some (.string body) :=
  ⟨h.blk.cell 0, h.blk.cell 1, h.blk.cell 2, h.blk.cell 3, h.blk.cell 4, h.blk.cell 5, h.blk.cell 6, h.blk.cell 7, h.blk.cell 8, h.blk.cell 9, h.blk.cell 10, h.blk.cell 11⟩
def inB (v m : Int) : Bool := decide (0 ≤ v) && decide (v ≤ m)
theorem in67 (v m : Int) (w : World) : Calls Try.prog 90 #[.int .i64 v, .int .i64 m] w fun e w' => e = .returned (.bool (inB v m)) ∧ w = w' := by
  by_cases h : 0 ≤ v
  · go_enter Try.func90, Try.ntmps90
    go_wp2
    go_ret
    exact ⟨ret_bool (by simp [inB, h]), rfl⟩
  · go_enter Try.func90, Try.ntmps90
    go_wp2
    go_ret
    exact ⟨ret_bool (by simp [inB]; omega), rfl⟩
def optB (s : ByteArray) : Bool := decide (s.size ≤ 40) && decide (s.size % 4 = 0)
theorem isOpt_any (s : ByteArray) (w : World) : Calls Try.prog 91 #[.string s] w fun e w' => e = .returned (.bool (optB s)) ∧ w = w' := by
  by_cases h : s.size ≤ 40
  · have ht : (s.size : Int).tmod 4 = ((s.size % 4 : Nat) : Int) := by rw [Int.tmod_eq_emod_of_nonneg (by omega)]; omega
    go_enter Try.func91, Try.ntmps91
    go_wp2
    go_ret
    exact ⟨ret_bool (by rw [Bool.eq_iff_iff]; simp [optB, h]; omega), rfl⟩
  · go_enter Try.func91, Try.ntmps91
    go_wp2
    go_ret
    exact ⟨ret_bool (by simp [optB, h]), rfl⟩
set_option maxHeartbeats 1600000 in
theorem com_walk (v : Int) (src dst : ByteArray) (proto hops cls id flags off label : Int) (opt body : ByteArray) (n : Int) (w : World) (b0 b1 b2 b3 b4 : Bool) (h0 : ((src.size : Int) == n) = b0) (h1 : ((dst.size : Int) == n) = b1)
    (h2 : inB cls 255 = b2) (h3 : inB proto 255 = b3) (h4 : inB hops 255 = b4) :
    Calls Try.prog 89 #[.agg #[.int .i64 v, .string src, .string dst, .int .i64 proto, .int .i64 hops, .int .i64 cls, .int .i64 id, .int .i64 flags, .int .i64 off, .int .i64 label, .string opt, .string body], .int .i64 n] w fun e w' => e = .returned (.bool (b0 && b1 && b2 && b3 && b4)) ∧ Below w.heap.size w w' := by
  have A2 := in67 cls 255
  have A3 := in67 proto 255
  have A4 := in67 hops 255
  rw [h2] at A2
  rw [h3] at A3
  rw [h4] at A4
  have H2 := Lib.hid A2
  have H3 := Lib.hid A3
  have H4 := Lib.hid A4
  clear A2 A3 A4 h2 h3 h4
  cases b0
  · go_enter Try.func89, Try.ntmps89
    go_wp2_with (go_at_call 90; (first | (with_reducible refine (H2.out _).mono ?_) | (with_reducible refine (H3.out _).mono ?_) | (with_reducible refine (H4.out _).mono ?_)); rintro e w' ⟨rfl, rfl⟩)
    go_ret
    exact ⟨rfl, (Below.refl _ _).alloc (Nat.le_refl _) _⟩
  cases b1
  · go_enter Try.func89, Try.ntmps89
    go_wp2_with (go_at_call 90; (first | (with_reducible refine (H2.out _).mono ?_) | (with_reducible refine (H3.out _).mono ?_) | (with_reducible refine (H4.out _).mono ?_)); rintro e w' ⟨rfl, rfl⟩)
    go_ret
    exact ⟨rfl, (Below.refl _ _).alloc (Nat.le_refl _) _⟩
  cases b2
  · go_enter Try.func89, Try.ntmps89
    go_wp2_with (go_at_call 90; (first | (with_reducible refine (H2.out _).mono ?_) | (with_reducible refine (H3.out _).mono ?_) | (with_reducible refine (H4.out _).mono ?_)); rintro e w' ⟨rfl, rfl⟩)
    go_ret
    exact ⟨rfl, (Below.refl _ _).alloc (Nat.le_refl _) _⟩
  cases b3
  · go_enter Try.func89, Try.ntmps89
    go_wp2_with (go_at_call 90; (first | (with_reducible refine (H2.out _).mono ?_) | (with_reducible refine (H3.out _).mono ?_) | (with_reducible refine (H4.out _).mono ?_)); rintro e w' ⟨rfl, rfl⟩)
    go_ret
    exact ⟨rfl, (Below.refl _ _).alloc (Nat.le_refl _) _⟩
  go_enter Try.func89, Try.ntmps89
  go_wp2_with (go_at_call 90; (first | (with_reducible refine (H2.out _).mono ?_) | (with_reducible refine (H3.out _).mono ?_) | (with_reducible refine (H4.out _).mono ?_)); rintro e w' ⟨rfl, rfl⟩)
  go_ret
  exact ⟨rfl, (Below.refl _ _).alloc (Nat.le_refl _) _⟩
def comB (p : Pk) (n : Int) : Bool := ((p.src.size : Int) == n) && ((p.dst.size : Int) == n) && inB p.cls 255 && inB p.proto 255 && inB p.hops 255
theorem com_any (p : Pk) (n : Int) (w : World) : Calls Try.prog 89 #[.agg #[.int .i64 p.v, .string p.src, .string p.dst, .int .i64 p.proto, .int .i64 p.hops, .int .i64 p.cls, .int .i64 p.id, .int .i64 p.flags, .int .i64 p.off, .int .i64 p.label, .string p.opt, .string p.body], .int .i64 n] w fun e w' => e = .returned (.bool (comB p n)) ∧ Below w.heap.size w w' :=
  com_walk _ _ _ _ _ _ _ _ _ _ _ _ n w _ _ _ _ _ rfl rfl rfl rfl rfl
set_option maxHeartbeats 3200000 in
theorem pk4_walk (v : Int) (src dst : ByteArray) (proto hops cls id flags off label : Int) (opt body : ByteArray) (w : World) (b0 b1 b2 b3 b4 b5 b6 b7 : Bool) (h0 : (v == 4) = b0)
    (A1 : ∀ W, Calls Try.prog 89 #[.agg #[.int .i64 v, .string src, .string dst, .int .i64 proto, .int .i64 hops, .int .i64 cls, .int .i64 id, .int .i64 flags, .int .i64 off, .int .i64 label, .string opt, .string body], .int .i64 4] W fun e w' => e = .returned (.bool b1) ∧ Below W.heap.size W w')
    (h2 : inB id 65535 = b2) (h3 : inB flags 3 = b3) (h4 : inB off 8191 = b4) (h5 : (label == 0) = b5) (h6 : optB opt = b6) (ho : opt.size ≤ 140737488351232) (hb : body.size ≤ 140737488351232) (h7 : decide (20 + (opt.size : Int) + body.size ≤ 65535) = b7) :
    Calls Try.prog 47 #[.agg #[.int .i64 v, .string src, .string dst, .int .i64 proto, .int .i64 hops, .int .i64 cls, .int .i64 id, .int .i64 flags, .int .i64 off, .int .i64 label, .string opt, .string body]] w fun e w' => e = .returned (.bool (b0 && b1 && b2 && b3 && b4 && b5 && b6 && b7)) ∧ Below w.heap.size w w' := by
  have A2 := in67 id 65535
  have A3 := in67 flags 3
  have A4 := in67 off 8191
  have A6 := isOpt_any opt
  rw [h2] at A2
  rw [h3] at A3
  rw [h4] at A4
  rw [h6] at A6
  have H1 := Lib.hid A1
  have H2 := Lib.hid A2
  have H3 := Lib.hid A3
  have H4 := Lib.hid A4
  have H6 := Lib.hid A6
  clear A1 A2 A3 A4 A6 h2 h3 h4 h6
  cases b0
  · go_enter Try.func47, Try.ntmps47
    go_wp2_with fail
    go_ret
    exact ⟨rfl, (Below.refl _ _).alloc (Nat.le_refl _) _⟩
  cases b1
  · go_enter Try.func47, Try.ntmps47
    go_wp2_with fail
    refine (H1.out _).mono ?_
    rintro e w1 ⟨rfl, hb⟩
    have hS := (Held.new w 36 #[.int .i64 v, .string src, .string dst, .int .i64 proto, .int .i64 hops, .int .i64 cls, .int .i64 id, .int .i64 flags, .int .i64 off, .int .i64 label, .string opt, .string body]).next hb
    obtain ⟨c0, c1, c2, c3, c4, c5, c6, c7, c8, c9, c10, c11⟩ := pk_cells hS
    clear hb
    go_wp2_with (first
      | (go_at_call 90; (first | (with_reducible refine (H2.out _).mono ?_) | (with_reducible refine (H3.out _).mono ?_) | (with_reducible refine (H4.out _).mono ?_)); rintro e w' ⟨rfl, rfl⟩)
      | (go_at_call 91; (with_reducible refine (H6.out _).mono ?_); rintro e w' ⟨rfl, rfl⟩))
    go_ret
    exact ⟨rfl, hS.below⟩
  cases b2
  · go_enter Try.func47, Try.ntmps47
    go_wp2_with fail
    refine (H1.out _).mono ?_
    rintro e w1 ⟨rfl, hb⟩
    have hS := (Held.new w 36 #[.int .i64 v, .string src, .string dst, .int .i64 proto, .int .i64 hops, .int .i64 cls, .int .i64 id, .int .i64 flags, .int .i64 off, .int .i64 label, .string opt, .string body]).next hb
    obtain ⟨c0, c1, c2, c3, c4, c5, c6, c7, c8, c9, c10, c11⟩ := pk_cells hS
    clear hb
    go_wp2_with (first
      | (go_at_call 90; (first | (with_reducible refine (H2.out _).mono ?_) | (with_reducible refine (H3.out _).mono ?_) | (with_reducible refine (H4.out _).mono ?_)); rintro e w' ⟨rfl, rfl⟩)
      | (go_at_call 91; (with_reducible refine (H6.out _).mono ?_); rintro e w' ⟨rfl, rfl⟩))
    go_ret
    exact ⟨rfl, hS.below⟩
  cases b3
  · go_enter Try.func47, Try.ntmps47
    go_wp2_with fail
    refine (H1.out _).mono ?_
    rintro e w1 ⟨rfl, hb⟩
    have hS := (Held.new w 36 #[.int .i64 v, .string src, .string dst, .int .i64 proto, .int .i64 hops, .int .i64 cls, .int .i64 id, .int .i64 flags, .int .i64 off, .int .i64 label, .string opt, .string body]).next hb
    obtain ⟨c0, c1, c2, c3, c4, c5, c6, c7, c8, c9, c10, c11⟩ := pk_cells hS
    clear hb
    go_wp2_with (first
      | (go_at_call 90; (first | (with_reducible refine (H2.out _).mono ?_) | (with_reducible refine (H3.out _).mono ?_) | (with_reducible refine (H4.out _).mono ?_)); rintro e w' ⟨rfl, rfl⟩)
      | (go_at_call 91; (with_reducible refine (H6.out _).mono ?_); rintro e w' ⟨rfl, rfl⟩))
    go_ret
    exact ⟨rfl, hS.below⟩
  cases b4
  · go_enter Try.func47, Try.ntmps47
    go_wp2_with fail
    refine (H1.out _).mono ?_
    rintro e w1 ⟨rfl, hb⟩
    have hS := (Held.new w 36 #[.int .i64 v, .string src, .string dst, .int .i64 proto, .int .i64 hops, .int .i64 cls, .int .i64 id, .int .i64 flags, .int .i64 off, .int .i64 label, .string opt, .string body]).next hb
    obtain ⟨c0, c1, c2, c3, c4, c5, c6, c7, c8, c9, c10, c11⟩ := pk_cells hS
    clear hb
    go_wp2_with (first
      | (go_at_call 90; (first | (with_reducible refine (H2.out _).mono ?_) | (with_reducible refine (H3.out _).mono ?_) | (with_reducible refine (H4.out _).mono ?_)); rintro e w' ⟨rfl, rfl⟩)
      | (go_at_call 91; (with_reducible refine (H6.out _).mono ?_); rintro e w' ⟨rfl, rfl⟩))
    go_ret
    exact ⟨rfl, hS.below⟩
  cases b5
  · go_enter Try.func47, Try.ntmps47
    go_wp2_with fail
    refine (H1.out _).mono ?_
    rintro e w1 ⟨rfl, hb⟩
    have hS := (Held.new w 36 #[.int .i64 v, .string src, .string dst, .int .i64 proto, .int .i64 hops, .int .i64 cls, .int .i64 id, .int .i64 flags, .int .i64 off, .int .i64 label, .string opt, .string body]).next hb
    obtain ⟨c0, c1, c2, c3, c4, c5, c6, c7, c8, c9, c10, c11⟩ := pk_cells hS
    clear hb
    go_wp2_with (first
      | (go_at_call 90; (first | (with_reducible refine (H2.out _).mono ?_) | (with_reducible refine (H3.out _).mono ?_) | (with_reducible refine (H4.out _).mono ?_)); rintro e w' ⟨rfl, rfl⟩)
      | (go_at_call 91; (with_reducible refine (H6.out _).mono ?_); rintro e w' ⟨rfl, rfl⟩))
    go_ret
    exact ⟨rfl, hS.below⟩
  cases b6
  · go_enter Try.func47, Try.ntmps47
    go_wp2_with fail
    refine (H1.out _).mono ?_
    rintro e w1 ⟨rfl, hb⟩
    have hS := (Held.new w 36 #[.int .i64 v, .string src, .string dst, .int .i64 proto, .int .i64 hops, .int .i64 cls, .int .i64 id, .int .i64 flags, .int .i64 off, .int .i64 label, .string opt, .string body]).next hb
    obtain ⟨c0, c1, c2, c3, c4, c5, c6, c7, c8, c9, c10, c11⟩ := pk_cells hS
    clear hb
    go_wp2_with (first
      | (go_at_call 90; (first | (with_reducible refine (H2.out _).mono ?_) | (with_reducible refine (H3.out _).mono ?_) | (with_reducible refine (H4.out _).mono ?_)); rintro e w' ⟨rfl, rfl⟩)
      | (go_at_call 91; (with_reducible refine (H6.out _).mono ?_); rintro e w' ⟨rfl, rfl⟩))
    go_ret
    exact ⟨rfl, hS.below⟩
  go_enter Try.func47, Try.ntmps47
  go_wp2_with fail
  refine (H1.out _).mono ?_
  rintro e w1 ⟨rfl, hb⟩
  have hS := (Held.new w 36 #[.int .i64 v, .string src, .string dst, .int .i64 proto, .int .i64 hops, .int .i64 cls, .int .i64 id, .int .i64 flags, .int .i64 off, .int .i64 label, .string opt, .string body]).next hb
  obtain ⟨c0, c1, c2, c3, c4, c5, c6, c7, c8, c9, c10, c11⟩ := pk_cells hS
  clear hb
  go_wp2_with (first
    | (go_at_call 90; (first | (with_reducible refine (H2.out _).mono ?_) | (with_reducible refine (H3.out _).mono ?_) | (with_reducible refine (H4.out _).mono ?_)); rintro e w' ⟨rfl, rfl⟩)
    | (go_at_call 91; (with_reducible refine (H6.out _).mono ?_); rintro e w' ⟨rfl, rfl⟩))
  go_ret
  exact ⟨rfl, hS.below⟩
set_option maxHeartbeats 3200000 in
theorem pk6_walk (v : Int) (src dst : ByteArray) (proto hops cls id flags off label : Int) (opt body : ByteArray) (w : World) (b0 b1 b2 b3 b4 b5 b6 b7 : Bool) (h0 : (v == 6) = b0)
    (A1 : ∀ W, Calls Try.prog 89 #[.agg #[.int .i64 v, .string src, .string dst, .int .i64 proto, .int .i64 hops, .int .i64 cls, .int .i64 id, .int .i64 flags, .int .i64 off, .int .i64 label, .string opt, .string body], .int .i64 16] W fun e w' => e = .returned (.bool b1) ∧ Below W.heap.size W w')
    (h2 : (id == 0) = b2) (h3 : (flags == 0) = b3) (h4 : (off == 0) = b4) (h5 : inB label 1048575 = b5) (h6 : (opt.toList == []) = b6) (h7 : decide ((body.size : Int) ≤ 65535) = b7) :
    Calls Try.prog 50 #[.agg #[.int .i64 v, .string src, .string dst, .int .i64 proto, .int .i64 hops, .int .i64 cls, .int .i64 id, .int .i64 flags, .int .i64 off, .int .i64 label, .string opt, .string body]] w fun e w' => e = .returned (.bool (b0 && b1 && b2 && b3 && b4 && b5 && b6 && b7)) ∧ Below w.heap.size w w' := by
  have A5 := in67 label 1048575
  rw [h5] at A5
  have H1 := Lib.hid A1
  have H5 := Lib.hid A5
  clear A1 A5 h5
  cases b0
  · go_enter Try.func50, Try.ntmps50
    go_wp2_with fail
    go_ret
    exact ⟨rfl, (Below.refl _ _).alloc (Nat.le_refl _) _⟩
  cases b1
  · go_enter Try.func50, Try.ntmps50
    go_wp2_with fail
    refine (H1.out _).mono ?_
    rintro e w1 ⟨rfl, hb⟩
    have hS := (Held.new w 36 #[.int .i64 v, .string src, .string dst, .int .i64 proto, .int .i64 hops, .int .i64 cls, .int .i64 id, .int .i64 flags, .int .i64 off, .int .i64 label, .string opt, .string body]).next hb
    obtain ⟨c0, c1, c2, c3, c4, c5, c6, c7, c8, c9, c10, c11⟩ := pk_cells hS
    clear hb
    go_wp2_with (go_at_call 90; (with_reducible refine (H5.out _).mono ?_); rintro e w' ⟨rfl, rfl⟩)
    go_ret
    exact ⟨rfl, hS.below⟩
  cases b2
  · go_enter Try.func50, Try.ntmps50
    go_wp2_with fail
    refine (H1.out _).mono ?_
    rintro e w1 ⟨rfl, hb⟩
    have hS := (Held.new w 36 #[.int .i64 v, .string src, .string dst, .int .i64 proto, .int .i64 hops, .int .i64 cls, .int .i64 id, .int .i64 flags, .int .i64 off, .int .i64 label, .string opt, .string body]).next hb
    obtain ⟨c0, c1, c2, c3, c4, c5, c6, c7, c8, c9, c10, c11⟩ := pk_cells hS
    clear hb
    go_wp2_with (go_at_call 90; (with_reducible refine (H5.out _).mono ?_); rintro e w' ⟨rfl, rfl⟩)
    go_ret
    exact ⟨rfl, hS.below⟩
  cases b3
  · go_enter Try.func50, Try.ntmps50
    go_wp2_with fail
    refine (H1.out _).mono ?_
    rintro e w1 ⟨rfl, hb⟩
    have hS := (Held.new w 36 #[.int .i64 v, .string src, .string dst, .int .i64 proto, .int .i64 hops, .int .i64 cls, .int .i64 id, .int .i64 flags, .int .i64 off, .int .i64 label, .string opt, .string body]).next hb
    obtain ⟨c0, c1, c2, c3, c4, c5, c6, c7, c8, c9, c10, c11⟩ := pk_cells hS
    clear hb
    go_wp2_with (go_at_call 90; (with_reducible refine (H5.out _).mono ?_); rintro e w' ⟨rfl, rfl⟩)
    go_ret
    exact ⟨rfl, hS.below⟩
  cases b4
  · go_enter Try.func50, Try.ntmps50
    go_wp2_with fail
    refine (H1.out _).mono ?_
    rintro e w1 ⟨rfl, hb⟩
    have hS := (Held.new w 36 #[.int .i64 v, .string src, .string dst, .int .i64 proto, .int .i64 hops, .int .i64 cls, .int .i64 id, .int .i64 flags, .int .i64 off, .int .i64 label, .string opt, .string body]).next hb
    obtain ⟨c0, c1, c2, c3, c4, c5, c6, c7, c8, c9, c10, c11⟩ := pk_cells hS
    clear hb
    go_wp2_with (go_at_call 90; (with_reducible refine (H5.out _).mono ?_); rintro e w' ⟨rfl, rfl⟩)
    go_ret
    exact ⟨rfl, hS.below⟩
  cases b5
  · go_enter Try.func50, Try.ntmps50
    go_wp2_with fail
    refine (H1.out _).mono ?_
    rintro e w1 ⟨rfl, hb⟩
    have hS := (Held.new w 36 #[.int .i64 v, .string src, .string dst, .int .i64 proto, .int .i64 hops, .int .i64 cls, .int .i64 id, .int .i64 flags, .int .i64 off, .int .i64 label, .string opt, .string body]).next hb
    obtain ⟨c0, c1, c2, c3, c4, c5, c6, c7, c8, c9, c10, c11⟩ := pk_cells hS
    clear hb
    go_wp2_with (go_at_call 90; (with_reducible refine (H5.out _).mono ?_); rintro e w' ⟨rfl, rfl⟩)
    go_ret
    exact ⟨rfl, hS.below⟩
  cases b6
  · go_enter Try.func50, Try.ntmps50
    go_wp2_with fail
    refine (H1.out _).mono ?_
    rintro e w1 ⟨rfl, hb⟩
    have hS := (Held.new w 36 #[.int .i64 v, .string src, .string dst, .int .i64 proto, .int .i64 hops, .int .i64 cls, .int .i64 id, .int .i64 flags, .int .i64 off, .int .i64 label, .string opt, .string body]).next hb
    obtain ⟨c0, c1, c2, c3, c4, c5, c6, c7, c8, c9, c10, c11⟩ := pk_cells hS
    clear hb
    go_wp2_with (go_at_call 90; (with_reducible refine (H5.out _).mono ?_); rintro e w' ⟨rfl, rfl⟩)
    go_ret
    exact ⟨rfl, hS.below⟩
  go_enter Try.func50, Try.ntmps50
  go_wp2_with fail
  refine (H1.out _).mono ?_
  rintro e w1 ⟨rfl, hb⟩
  have hS := (Held.new w 36 #[.int .i64 v, .string src, .string dst, .int .i64 proto, .int .i64 hops, .int .i64 cls, .int .i64 id, .int .i64 flags, .int .i64 off, .int .i64 label, .string opt, .string body]).next hb
  obtain ⟨c0, c1, c2, c3, c4, c5, c6, c7, c8, c9, c10, c11⟩ := pk_cells hS
  clear hb
  go_wp2_with (go_at_call 90; (with_reducible refine (H5.out _).mono ?_); rintro e w' ⟨rfl, rfl⟩)
  go_ret
  exact ⟨rfl, hS.below⟩
def pk4B (p : Pk) : Bool := (p.v == 4) && comB p 4 && inB p.id 65535 && inB p.flags 3 && inB p.off 8191 && (p.label == 0) && optB p.opt && decide (20 + (p.opt.size : Int) + p.body.size ≤ 65535)
def pk6B (p : Pk) : Bool := (p.v == 6) && comB p 16 && (p.id == 0) && (p.flags == 0) && (p.off == 0) && inB p.label 1048575 && (p.opt.toList == []) && decide ((p.body.size : Int) ≤ 65535)
theorem pk4_any (p : Pk) (w : World) (ho : p.opt.size ≤ 140737488351232) (hb : p.body.size ≤ 140737488351232) : Calls Try.prog 47 #[.agg #[.int .i64 p.v, .string p.src, .string p.dst, .int .i64 p.proto, .int .i64 p.hops, .int .i64 p.cls, .int .i64 p.id, .int .i64 p.flags, .int .i64 p.off, .int .i64 p.label, .string p.opt, .string p.body]] w fun e w' => e = .returned (.bool (pk4B p)) ∧ Below w.heap.size w w' :=
  pk4_walk _ _ _ _ _ _ _ _ _ _ _ _ w _ _ _ _ _ _ _ _ rfl (com_any p 4) rfl rfl rfl rfl rfl ho hb rfl
theorem pk6_any (p : Pk) (w : World) : Calls Try.prog 50 #[.agg #[.int .i64 p.v, .string p.src, .string p.dst, .int .i64 p.proto, .int .i64 p.hops, .int .i64 p.cls, .int .i64 p.id, .int .i64 p.flags, .int .i64 p.off, .int .i64 p.label, .string p.opt, .string p.body]] w fun e w' => e = .returned (.bool (pk6B p)) ∧ Below w.heap.size w w' :=
  pk6_walk _ _ _ _ _ _ _ _ _ _ _ _ w _ _ _ _ _ _ _ _ rfl (com_any p 16) rfl rfl rfl rfl rfl rfl
end Go.Proofs.Ytalkpllmcigjnaa
namespace Go.Proofs.Ytalkpllmcigjnaa
open Go.RowKit

theorem reader_any (s : ByteArray) (w : World) :
    Calls Try.prog 101 #[.string s] w fun e w' => e = .returned (.func (.func 113) #[] #[.pointer (some ⟨w.heap.size, 0, none⟩)]) ∧ w' = w.alloc (.cells #[.string s] 9) := by
  go_enter Try.func101, Try.ntmps101
  go_wp2
  go_ret
  exact ⟨rfl, rfl⟩
def shortI : Value := .iface 106 (.agg #[])
theorem str_ne {a b : ByteArray} (h : a ≠ b) : (a.toList == b.toList) = false := by
  rw [beq_eq_false_iff_ne, ByteArray.toList_eq, ByteArray.toList_eq]
  intro e
  exact h (by cases a; cases b; congr 1; exact Array.toList_inj.1 e)
theorem next_ok (g : Nat) (s : ByteArray) (n : Nat) (w : World) (hn : n ≤ s.size) (hc : w.cell? ⟨g, 0, none⟩ = some (.string s)) (hf : w.frozen? ⟨g, 0, none⟩ = false) :
    Calls Try.prog 113 #[.int .i64 n, .pointer (some ⟨g, 0, none⟩)] w fun e w' => e = .returned (.string (s.extract 0 n)) ∧ w' = w.setCell ⟨g, 0, none⟩ (.string (s.extract n s.size)) := by
  go_enter Try.func113, Try.ntmps113
  go_wp2
  go_ret
  exact ⟨rfl, rfl⟩
theorem next_short (g : Nat) (s : ByteArray) (n : Nat) (w : World) (hn : s.size < n) (hc : w.cell? ⟨g, 0, none⟩ = some (.string s)) :
    Calls Try.prog 113 #[.int .i64 n, .pointer (some ⟨g, 0, none⟩)] w fun e w' => e = .panicked [{ v := shortI, recovered := false }] ∧ w = w' := by
  go_enter Try.func113, Try.ntmps113
  go_wp2
  exact ⟨rfl, rfl, rfl⟩

/-- A header with nought in the checksum's place, and with its checksum. -/
def blank (h : ByteArray) : ByteArray := h.extract 0 10 ++ bs 0 2 ++ h.extract 12 h.size
def sumd (h : ByteArray) : ByteArray := (blank h).extract 0 10 ++ bs (65535 - onS 0 (blank h)) 2 ++ (blank h).extract 12 (blank h).size
theorem blank_size (h : ByteArray) (h1 : 12 ≤ h.size) : (blank h).size = h.size := by
  unfold blank
  simp only [ByteArray.size_append, ByteArray.size_extract, bs_size]; omega
theorem sumd_size (h : ByteArray) (h1 : 12 ≤ h.size) : (sumd h).size = h.size := by
  have := blank_size h h1
  unfold sumd
  simp only [ByteArray.size_append, ByteArray.size_extract, bs_size]; omega
theorem set2 (s : ByteArray) (v : Int) (w : World) (hs : s.size ≤ 281474976710656) (h12 : 12 ≤ s.size) (h0 : 0 ≤ v) (h1 : v ≤ 65535) :
    Calls Try.prog 33 #[.string s, .int .i64 10, .int .u64 v, .int .i64 2, .bool true] w fun e w' => e = .returned (.tuple #[.string (s.extract 0 10 ++ bs v 2 ++ s.extract 12 s.size), .int .i64 0]) ∧ Below w.heap.size w w' := by
  have hp : 1 ≤ (2 : Int) ∧ (2 : Int) ≤ 8 ∧ v < 256 ^ (2 : Int).toNat := ⟨by omega, by omega, by show v < 65536; omega⟩
  have e1 : putE v 2 = 0 := by rw [putE, if_pos hp]
  have e2 : putS v 2 true = bs v 2 := by rw [putS, if_pos hp]; rfl
  have := set_ok s 10 v 2 true w hs h0 (by omega) (by omega) e1 (by omega)
  rw [show ((2 : Nat) : Int) = 2 from rfl, e2] at this
  exact this
theorem summed_any (h : ByteArray) (w : World) (h12 : 12 ≤ h.size) (hs : h.size ≤ 281474976710656) :
    Calls Try.prog 48 #[.string h] w fun e w' => e = .returned (.string (sumd h)) ∧ Below w.heap.size w w' := by
  have hz := blank_size h h12
  have hr := onS_range (blank h) 0 (by omega) (by omega)
  have A1 := fun W => set2 h 0 W hs h12 (by omega) (by omega)
  have A2 := fun W => sum_any (blank h) W (by unfold maxLen; omega)
  have A3 := fun W => set2 (blank h) (65535 - onS 0 (blank h)) W (by omega) (by omega) (by omega) (by omega)
  change ∀ W, Calls Try.prog 33 _ W fun e w' => e = .returned (.tuple #[.string (blank h), .int .i64 0]) ∧ _ at A1
  change ∀ W, Calls Try.prog 33 _ W fun e w' => e = .returned (.tuple #[.string (sumd h), .int .i64 0]) ∧ _ at A3
  generalize blank h = X at *
  generalize sumd h = Y at *
  obtain ⟨V, hV⟩ : ∃ V : Int, 65535 - onS 0 X = V := ⟨_, rfl⟩
  rw [hV] at A2 A3
  have hV0 : 0 ≤ V := by omega
  have hV1 : V ≤ 65535 := by omega
  have H1 := Lib.hid A1
  have H2 := Lib.hid A2
  have H3 := Lib.hid A3
  clear A1 A2 A3 hV hr
  go_enter Try.func48, Try.ntmps48
  go_wp2_with fail
  refine (H1.out _).mono ?_
  rintro e w1 ⟨rfl, hB⟩
  go_wp2_with fail
  refine (H2.out _).mono ?_
  rintro e w2 ⟨rfl, hq⟩
  replace hB := hB.trans (hq.mono hB.size)
  clear hq
  go_wp2_with fail
  refine (H3.out _).mono ?_
  rintro e w3 ⟨rfl, hq⟩
  replace hB := hB.trans (hq.mono hB.size)
  clear hq
  go_wp2_with fail
  go_ret
  exact ⟨rfl, hB⟩

def pkL (v : Int) (src dst : ByteArray) (proto hops cls id flags off label : Int) (opt body : ByteArray) : Array Value := #[.int .i64 v, .string src, .string dst, .int .i64 proto, .int .i64 hops, .int .i64 cls, .int .i64 id, .int .i64 flags, .int .i64 off, .int .i64 label, .string opt, .string body]
def pkZ : Array Value := pkL 0 ⟨#[]⟩ ⟨#[]⟩ 0 0 0 0 0 0 0 ⟨#[]⟩ ⟨#[]⟩
/-- a packet under way: the result, the reader's box, the packet. -/
structure PS (w0 : World) (v : Int) (src dst : ByteArray) (proto hops cls id flags off label : Int) (opt body : ByteArray) (u : ByteArray) (w : World) : Prop where
  res : Blk w w0.heap.size 36 pkZ
  box : Blk w (w0.heap.size + 1) 9 #[.string u]
  pb : Blk w (w0.heap.size + 1 + 1) 36 (pkL v src dst proto hops cls id flags off label opt body)
  below : Below w0.heap.size w0 w
section
variable {w0 w w' : World} {v : Int} {src dst : ByteArray} {proto hops cls id flags off label : Int} {opt body : ByteArray} {u : ByteArray}
theorem PS.size (h : PS w0 v src dst proto hops cls id flags off label opt body u w) : w0.heap.size + 1 + 1 < w.heap.size := h.pb.lt
theorem PS.next (h : PS w0 v src dst proto hops cls id flags off label opt body u w) (u' : ByteArray) : PS w0 v src dst proto hops cls id flags off label opt body u' (w.setCell ⟨w0.heap.size + 1, 0, none⟩ (.string u')) :=
  ⟨h.res.other (by omega) _ _, h.box.put 0 _, h.pb.other (by omega) _ _, h.below.setCell (by show _ ≤ w0.heap.size + 1; omega) _⟩
theorem PS.on (h : PS w0 v src dst proto hops cls id flags off label opt body u w) (hb : Below w.heap.size w w') : PS w0 v src dst proto hops cls id flags off label opt body u w' :=
  ⟨h.res.same (hb.block _ h.res.lt), h.box.same (hb.block _ h.box.lt), h.pb.same (hb.block _ h.pb.lt), h.below.trans (hb.mono (by have := h.size; omega))⟩
theorem PS.put (h : PS w0 v src dst proto hops cls id flags off label opt body u w) (i : Nat) (x : Value) {v' : Int} {src' dst' : ByteArray} {proto' hops' cls' id' flags' off' label' : Int} {opt' body' : ByteArray} (e : (pkL v src dst proto hops cls id flags off label opt body).setIfInBounds i x = pkL v' src' dst' proto' hops' cls' id' flags' off' label' opt' body') : PS w0 v' src' dst' proto' hops' cls' id' flags' off' label' opt' body' u (w.setCell ⟨w0.heap.size + 1 + 1, i, none⟩ x) :=
  ⟨h.res.other (by omega) _ _, h.box.other (by omega) _ _, e ▸ h.pb.put i x, h.below.setCell (by show _ ≤ w0.heap.size + 1 + 1; omega) _⟩
theorem PS.putR (h : PS w0 v src dst proto hops cls id flags off label opt body u w) (i : Nat) (x : Value) (e : pkZ.setIfInBounds i x = pkZ) : PS w0 v src dst proto hops cls id flags off label opt body u (w.setCell ⟨w0.heap.size, i, none⟩ x) :=
  ⟨e ▸ h.res.put i x, h.box.other (by omega) _ _, h.pb.other (by omega) _ _, h.below.setCell (Nat.le_refl _) _⟩
theorem PS.cells (h : PS w0 v src dst proto hops cls id flags off label opt body u w) : (w.cell? ⟨w0.heap.size, 0, none⟩ = some (.int .i64 0) ∧ w.cell? ⟨w0.heap.size, 1, none⟩ = some (.string ⟨#[]⟩) ∧ w.cell? ⟨w0.heap.size, 2, none⟩ = some (.string ⟨#[]⟩) ∧ w.cell? ⟨w0.heap.size, 3, none⟩ = some (.int .i64 0) ∧ w.cell? ⟨w0.heap.size, 4, none⟩ = some (.int .i64 0) ∧ w.cell? ⟨w0.heap.size, 5, none⟩ = some (.int .i64 0) ∧ w.cell? ⟨w0.heap.size, 6, none⟩ = some (.int .i64 0) ∧ w.cell? ⟨w0.heap.size, 7, none⟩ = some (.int .i64 0) ∧ w.cell? ⟨w0.heap.size, 8, none⟩ = some (.int .i64 0) ∧ w.cell? ⟨w0.heap.size, 9, none⟩ = some (.int .i64 0) ∧ w.cell? ⟨w0.heap.size, 10, none⟩ = some (.string ⟨#[]⟩) ∧ w.cell? ⟨w0.heap.size, 11, none⟩ = some (.string ⟨#[]⟩)) ∧ (w.cell? ⟨w0.heap.size + 1 + 1, 0, none⟩ = some (.int .i64 v) ∧ w.cell? ⟨w0.heap.size + 1 + 1, 1, none⟩ = some (.string src) ∧ w.cell? ⟨w0.heap.size + 1 + 1, 2, none⟩ = some (.string dst) ∧ w.cell? ⟨w0.heap.size + 1 + 1, 3, none⟩ = some (.int .i64 proto) ∧ w.cell? ⟨w0.heap.size + 1 + 1, 4, none⟩ = some (.int .i64 hops) ∧ w.cell? ⟨w0.heap.size + 1 + 1, 5, none⟩ = some (.int .i64 cls) ∧ w.cell? ⟨w0.heap.size + 1 + 1, 6, none⟩ = some (.int .i64 id) ∧ w.cell? ⟨w0.heap.size + 1 + 1, 7, none⟩ = some (.int .i64 flags) ∧ w.cell? ⟨w0.heap.size + 1 + 1, 8, none⟩ = some (.int .i64 off) ∧ w.cell? ⟨w0.heap.size + 1 + 1, 9, none⟩ = some (.int .i64 label) ∧ w.cell? ⟨w0.heap.size + 1 + 1, 10, none⟩ = some (.string opt) ∧ w.cell? ⟨w0.heap.size + 1 + 1, 11, none⟩ = some (.string body)) ∧
    w.cell? ⟨w0.heap.size + 1, 0, none⟩ = some (.string u) ∧ (∀ i, w.frozen? ⟨w0.heap.size, i, none⟩ = false) ∧ (∀ i, w.frozen? ⟨w0.heap.size + 1 + 1, i, none⟩ = false) ∧ w.frozen? ⟨w0.heap.size + 1, 0, none⟩ = false :=
  ⟨⟨h.res.cell 0, h.res.cell 1, h.res.cell 2, h.res.cell 3, h.res.cell 4, h.res.cell 5, h.res.cell 6, h.res.cell 7, h.res.cell 8, h.res.cell 9, h.res.cell 10, h.res.cell 11⟩, ⟨h.pb.cell 0, h.pb.cell 1, h.pb.cell 2, h.pb.cell 3, h.pb.cell 4, h.pb.cell 5, h.pb.cell 6, h.pb.cell 7, h.pb.cell 8, h.pb.cell 9, h.pb.cell 10, h.pb.cell 11⟩, h.box.cell 0, h.res.frozen, h.pb.frozen, h.box.frozen 0⟩
end
section
variable {w0 w : World} {v : Int} {src dst : ByteArray} {proto hops cls id flags off label : Int} {opt body : ByteArray} {s : ByteArray} {a : Nat}
theorem next_ps (h : PS w0 v src dst proto hops cls id flags off label opt body (tail s a) w) (k : Int) (n c : Nat) (hk : k = n) (hc : c = a + n) (hn : c ≤ s.size) :
    Calls Try.prog 113 #[.int .i64 k, .pointer (some ⟨w0.heap.size + 1, 0, none⟩)] w fun e w' => e = .returned (.string (s.extract a c)) ∧ PS w0 v src dst proto hops cls id flags off label opt body (tail s c) w' := by
  subst hc hk
  refine (next_ok _ (tail s a) n w (by rw [tail_size]; omega) (h.box.cell 0) (h.box.frozen 0)).mono fun _ _ ⟨he, hw⟩ => ⟨?_, ?_⟩
  · rw [he, tail_take s a n hn]
  · subst hw; rw [tail_tail]; exact h.next _
theorem next_ps_short (h : PS w0 v src dst proto hops cls id flags off label opt body (tail s a) w) (k : Int) (n : Nat) (hk : k = n) (ha : a ≤ s.size) (hn : s.size < a + n) :
    Calls Try.prog 113 #[.int .i64 k, .pointer (some ⟨w0.heap.size + 1, 0, none⟩)] w fun e w' => e = .panicked [{ v := shortI, recovered := false }] ∧ Below w0.heap.size w0 w' := by
  subst hk
  exact (next_short _ (tail s a) n w (by rw [tail_size]; omega) (h.box.cell 0)).mono fun _ _ ⟨he, hw⟩ => ⟨he, hw ▸ h.below⟩
theorem get_ps (h : PS w0 v src dst proto hops cls id flags off label opt body (tail s a) w) (b c n : Nat) (hc : c = b + n) (hn : c ≤ s.size) (h1 : 1 ≤ n) (h2 : n ≤ 4) :
    Calls Try.prog 114 #[.string (s.extract b c)] w fun e w' => e = .returned (.int .i64 (nat s b n)) ∧ PS w0 v src dst proto hops cls id flags off label opt body (tail s a) w' := by
  subst hc
  have hz : (s.extract b (b + n)).size = n := by simp [ByteArray.size_extract]; omega
  refine (get4_any (s.extract b (b + n)) n w hz h1 h2).mono fun _ _ ⟨he, hw⟩ => ⟨?_, h.on hw⟩
  rw [he, nat_cut s b 0 n n (by omega)]
  rfl
end
theorem PS.new (w : World) (s : ByteArray) (v : Int) : PS w v ⟨#[]⟩ ⟨#[]⟩ 0 0 0 0 0 0 0 ⟨#[]⟩ ⟨#[]⟩ (tail s 0) (((w.alloc (.cells pkZ 36)).alloc (.cells #[.string s] 9)).alloc (.cells (pkL v ⟨#[]⟩ ⟨#[]⟩ 0 0 0 0 0 0 0 ⟨#[]⟩ ⟨#[]⟩) 36)) := by
  rw [tail_zero]
  refine ⟨((Blk.new w 36 _).alloc _).alloc _, ?_, ?_, (((Below.refl _ _).alloc (Nat.le_refl _) _).alloc (by simp) _).alloc (by simp; omega) _⟩
  · have := (Blk.new (w.alloc (.cells pkZ 36)) 9 #[.string s]).alloc (.cells (pkL v ⟨#[]⟩ ⟨#[]⟩ 0 0 0 0 0 0 0 ⟨#[]⟩ ⟨#[]⟩) 36)
    simpa using this
  · have := Blk.new ((w.alloc (.cells pkZ 36)).alloc (.cells #[.string s] 9)) 36 (pkL v ⟨#[]⟩ ⟨#[]⟩ 0 0 0 0 0 0 0 ⟨#[]⟩ ⟨#[]⟩)
    simpa using this
theorem Blk.put' {w : World} {g : Nat} {t : TypeId} {cs cs' : Array Value} (h : Blk w g t cs) (i : Nat) (u : Value) (e : cs.setIfInBounds i u = cs') : Blk (w.setCell ⟨g, i, none⟩ u) g t cs' := e ▸ h.put i u
theorem PS.ret {w0 w : World} {v : Int} {src dst : ByteArray} {proto hops cls id flags off label : Int} {opt body : ByteArray} {u : ByteArray} (h : PS w0 v src dst proto hops cls id flags off label opt body u w) (a0 : Int) (a1 a2 : ByteArray) (a3 a4 a5 a6 a7 a8 a9 : Int) (a10 a11 : ByteArray) :
    Blk ((((((((((((w.setCell ⟨w0.heap.size, 0, none⟩ (.int .i64 a0)).setCell ⟨w0.heap.size, 1, none⟩ (.string a1)).setCell ⟨w0.heap.size, 2, none⟩ (.string a2)).setCell ⟨w0.heap.size, 3, none⟩ (.int .i64 a3)).setCell ⟨w0.heap.size, 4, none⟩ (.int .i64 a4)).setCell ⟨w0.heap.size, 5, none⟩ (.int .i64 a5)).setCell ⟨w0.heap.size, 6, none⟩ (.int .i64 a6)).setCell ⟨w0.heap.size, 7, none⟩ (.int .i64 a7)).setCell ⟨w0.heap.size, 8, none⟩ (.int .i64 a8)).setCell ⟨w0.heap.size, 9, none⟩ (.int .i64 a9)).setCell ⟨w0.heap.size, 10, none⟩ (.string a10)).setCell ⟨w0.heap.size, 11, none⟩ (.string a11)) w0.heap.size 36 (pkL a0 a1 a2 a3 a4 a5 a6 a7 a8 a9 a10 a11) ∧ Below w0.heap.size w0 ((((((((((((w.setCell ⟨w0.heap.size, 0, none⟩ (.int .i64 a0)).setCell ⟨w0.heap.size, 1, none⟩ (.string a1)).setCell ⟨w0.heap.size, 2, none⟩ (.string a2)).setCell ⟨w0.heap.size, 3, none⟩ (.int .i64 a3)).setCell ⟨w0.heap.size, 4, none⟩ (.int .i64 a4)).setCell ⟨w0.heap.size, 5, none⟩ (.int .i64 a5)).setCell ⟨w0.heap.size, 6, none⟩ (.int .i64 a6)).setCell ⟨w0.heap.size, 7, none⟩ (.int .i64 a7)).setCell ⟨w0.heap.size, 8, none⟩ (.int .i64 a8)).setCell ⟨w0.heap.size, 9, none⟩ (.int .i64 a9)).setCell ⟨w0.heap.size, 10, none⟩ (.string a10)).setCell ⟨w0.heap.size, 11, none⟩ (.string a11)) :=
  ⟨((((((((((((h.res.put' 0 (.int .i64 a0) (cs' := pkL a0 ⟨#[]⟩ ⟨#[]⟩ 0 0 0 0 0 0 0 ⟨#[]⟩ ⟨#[]⟩) rfl).put' 1 (.string a1) (cs' := pkL a0 a1 ⟨#[]⟩ 0 0 0 0 0 0 0 ⟨#[]⟩ ⟨#[]⟩) rfl).put' 2 (.string a2) (cs' := pkL a0 a1 a2 0 0 0 0 0 0 0 ⟨#[]⟩ ⟨#[]⟩) rfl).put' 3 (.int .i64 a3) (cs' := pkL a0 a1 a2 a3 0 0 0 0 0 0 ⟨#[]⟩ ⟨#[]⟩) rfl).put' 4 (.int .i64 a4) (cs' := pkL a0 a1 a2 a3 a4 0 0 0 0 0 ⟨#[]⟩ ⟨#[]⟩) rfl).put' 5 (.int .i64 a5) (cs' := pkL a0 a1 a2 a3 a4 a5 0 0 0 0 ⟨#[]⟩ ⟨#[]⟩) rfl).put' 6 (.int .i64 a6) (cs' := pkL a0 a1 a2 a3 a4 a5 a6 0 0 0 ⟨#[]⟩ ⟨#[]⟩) rfl).put' 7 (.int .i64 a7) (cs' := pkL a0 a1 a2 a3 a4 a5 a6 a7 0 0 ⟨#[]⟩ ⟨#[]⟩) rfl).put' 8 (.int .i64 a8) (cs' := pkL a0 a1 a2 a3 a4 a5 a6 a7 a8 0 ⟨#[]⟩ ⟨#[]⟩) rfl).put' 9 (.int .i64 a9) (cs' := pkL a0 a1 a2 a3 a4 a5 a6 a7 a8 a9 ⟨#[]⟩ ⟨#[]⟩) rfl).put' 10 (.string a10) (cs' := pkL a0 a1 a2 a3 a4 a5 a6 a7 a8 a9 a10 ⟨#[]⟩) rfl).put' 11 (.string a11) (cs' := pkL a0 a1 a2 a3 a4 a5 a6 a7 a8 a9 a10 a11) rfl), ((((((((((((h.below.setCell (Nat.le_refl _) _).setCell (Nat.le_refl _) _).setCell (Nat.le_refl _) _).setCell (Nat.le_refl _) _).setCell (Nat.le_refl _) _).setCell (Nat.le_refl _) _).setCell (Nat.le_refl _) _).setCell (Nat.le_refl _) _).setCell (Nat.le_refl _) _).setCell (Nat.le_refl _) _).setCell (Nat.le_refl _) _).setCell (Nat.le_refl _) _)⟩
end Go.Proofs.Ytalkpllmcigjnaa
namespace Go.Proofs.Ytalkpllmcigjnaa
open Go.RowKit

theorem low4 (n : Int) : bits .and .i64 n 15 = n % 16 := by
  have e : (BitVec.ofInt 64 15).toNat = 2 ^ 4 - 1 := by decide
  have k : (BitVec.ofInt 64 n &&& BitVec.ofInt 64 15).toNat = (n % ((2 ^ 64 : Nat) : Int)).toNat % 2 ^ 4 := by
    rw [BitVec.toNat_and, BitVec.toNat_ofInt, e, Nat.and_two_pow_sub_one_eq_mod]
  show IntKind.i64.wrap ((BitVec.ofInt 64 n &&& BitVec.ofInt 64 15).toNat : Nat) = n % 16
  rw [k, IntKind.wrap_i64]
  omega
theorem low8 (n : Int) : bits .and .i64 n 255 = n % 256 := by
  have e : (BitVec.ofInt 64 255).toNat = 2 ^ 8 - 1 := by decide
  have k : (BitVec.ofInt 64 n &&& BitVec.ofInt 64 255).toNat = (n % ((2 ^ 64 : Nat) : Int)).toNat % 2 ^ 8 := by
    rw [BitVec.toNat_and, BitVec.toNat_ofInt, e, Nat.and_two_pow_sub_one_eq_mod]
  show IntKind.i64.wrap ((BitVec.ofInt 64 n &&& BitVec.ofInt 64 255).toNat : Nat) = n % 256
  rw [k, IntKind.wrap_i64]
  omega
theorem low20 (n : Int) : bits .and .i64 n 1048575 = n % 1048576 := by
  have e : (BitVec.ofInt 64 1048575).toNat = 2 ^ 20 - 1 := by decide
  have k : (BitVec.ofInt 64 n &&& BitVec.ofInt 64 1048575).toNat = (n % ((2 ^ 64 : Nat) : Int)).toNat % 2 ^ 20 := by
    rw [BitVec.toNat_and, BitVec.toNat_ofInt, e, Nat.and_two_pow_sub_one_eq_mod]
  show IntKind.i64.wrap ((BitVec.ofInt 64 n &&& BitVec.ofInt 64 1048575).toNat : Nat) = n % 1048576
  rw [k, IntKind.wrap_i64]
  omega
/-- the bytes of the header of version 4, as its first byte says -/
def n4 (s : ByteArray) : Nat := 4 * (nat s 0 1 % 16)
def short4 (s : ByteArray) : Prop := s.size < 20 ∨ s.size < n4 s
def form4 (s : ByteArray) : Prop := 20 ≤ n4 s ∧ nat s 6 2 / 8192 ≤ 3 ∧ nat s 2 2 = s.size
def sum4 (s : ByteArray) : Prop := sumd (s.extract 0 (n4 s)) = s.extract 0 (n4 s)
def pk4 (s : ByteArray) : Pk := ⟨4, s.extract 12 16, s.extract 16 20, nat s 9 1, nat s 8 1, nat s 1 1, nat s 4 2, nat s 6 2 / 8192, nat s 6 2 % 8192, 0, s.extract 20 (n4 s), s.extract (n4 s) s.size⟩
def Panics (w : World) (e : Ending) (w' : World) : Prop := e = .panicked [{ v := shortI, recovered := false }] ∧ Below w.heap.size w w'
def Answers (w : World) (p : Array Value) (n : Int) (e : Ending) (w' : World) : Prop := e = .returned (.tuple #[.agg p, .int .i64 n]) ∧ Below w.heap.size w w'
/-- how parse4 ends -/
def P4 (s : ByteArray) (w : World) (e : Ending) (w' : World) : Prop :=
  short4 s ∧ Panics w e w' ∨ ¬ short4 s ∧ ¬ form4 s ∧ Answers w pkZ 71 e w' ∨ ¬ short4 s ∧ form4 s ∧ ¬ sum4 s ∧ Answers w pkZ 72 e w' ∨ ¬ short4 s ∧ form4 s ∧ sum4 s ∧ Answers w (pkC (pk4 s)) 0 e w'
theorem parse4_results (w : World) (tmps : Array Value) (gf : Nat) {n : Int} (h2 : tmps[2]?.getD undef = .pointer (some ⟨gf, 0, none⟩)) (h3 : tmps[3]?.getD undef = .int .i64 n) {v : Int} {src dst : ByteArray} {proto hops cls id flags off label : Int} {opt body : ByteArray}
    (hF : Blk w gf 36 (pkL v src dst proto hops cls id flags off label opt body)) : (results Try.f102 tmps).run Try.prog w = .ok (.tuple #[.agg (pkL v src dst proto hops cls id flags off label opt body), .int .i64 n]) w := by
  have c0 := hF.cell 0
  have c1 := hF.cell 1
  have c2 := hF.cell 2
  have c3 := hF.cell 3
  have c4 := hF.cell 4
  have c5 := hF.cell 5
  have c6 := hF.cell 6
  have c7 := hF.cell 7
  have c8 := hF.cell 8
  have c9 := hF.cell 9
  have c10 := hF.cell 10
  have c11 := hF.cell 11
  simp only [pkL] at c0 c1 c2 c3 c4 c5 c6 c7 c8 c9 c10 c11
  simp [results, Try.results102, go_sem, h2, h3, c0, c1, c2, c3, c4, c5, c6, c7, c8, c9, c10, c11, pkL]
set_option maxRecDepth 100000 in
set_option maxHeartbeats 4800000 in
theorem parse4_any (s : ByteArray) (w : World) (hsz : s.size ≤ 281474976710656) : Calls Try.prog 102 #[.string s] w (P4 s w) := by
  have hmf := make_func
  obtain ⟨K, hK, eK, eN⟩ : ∃ K : Nat, K < 16 ∧ bits .and .i64 (nat s 0 1 : Int) 15 = (K : Int) ∧ n4 s = 4 * K := ⟨nat s 0 1 % 16, by omega, by rw [low4]; simp, rfl⟩
  have eP := low13 (nat s 6 2 : Int)
  have l6 := nat_lt s 6 2
  have H0 := Lib.hid (PS.new w s 4)
  go_enter Try.func102, Try.ntmps102
  go_wp2_with fail
  refine (reader_any _ _).mono ?_
  rintro e w0 ⟨rfl, rfl⟩
  go_wp2_with fail
  by_cases hs0 : s.size < 1
  · refine (next_ps_short H0.out 1 1 rfl (by omega) (by omega)).mono ?_
    rintro e w1 ⟨rfl, hb⟩
    exact ⟨rfl, .inl ⟨.inl (by omega), rfl, hb⟩⟩
  refine (next_ps H0.out 1 1 1 rfl rfl (by omega)).mono ?_
  rintro e w1 ⟨rfl, h1⟩
  obtain ⟨⟨r0, r1, r2, r3, r4, r5, r6, r7, r8, r9, r10, r11⟩, ⟨c0, c1, c2, c3, c4, c5, c6, c7, c8, c9, c10, c11⟩, cb, fr, fp, fb⟩ := h1.cells
  have K1 := Lib.hid h1
  clear h1 H0
  go_wp2_with fail
  refine (get_ps K1.out 0 1 1 rfl (by omega) (by omega) (by omega)).mono ?_
  rintro e w2 ⟨rfl, h2⟩
  clear r0 r1 r2 r3 r4 r5 r6 r7 r8 r9 r10 r11 c0 c1 c2 c3 c4 c5 c6 c7 c8 c9 c10 c11 cb fr fp fb
  obtain ⟨⟨r0, r1, r2, r3, r4, r5, r6, r7, r8, r9, r10, r11⟩, ⟨c0, c1, c2, c3, c4, c5, c6, c7, c8, c9, c10, c11⟩, cb, fr, fp, fb⟩ := h2.cells
  have K2 := Lib.hid h2
  clear h2 K1
  go_wp2_with fail
  by_cases hs2 : s.size < 2
  · refine (next_ps_short K2.out 1 1 rfl (by omega) (by omega)).mono ?_
    rintro e w1 ⟨rfl, hb⟩
    exact ⟨rfl, .inl ⟨.inl (by omega), rfl, hb⟩⟩
  refine (next_ps K2.out 1 1 2 rfl rfl (by omega)).mono ?_
  rintro e w3 ⟨rfl, h3⟩
  clear r0 r1 r2 r3 r4 r5 r6 r7 r8 r9 r10 r11 c0 c1 c2 c3 c4 c5 c6 c7 c8 c9 c10 c11 cb fr fp fb
  obtain ⟨⟨r0, r1, r2, r3, r4, r5, r6, r7, r8, r9, r10, r11⟩, ⟨c0, c1, c2, c3, c4, c5, c6, c7, c8, c9, c10, c11⟩, cb, fr, fp, fb⟩ := h3.cells
  have K3 := Lib.hid h3
  clear h3 K2
  go_wp2_with fail
  refine (get_ps K3.out 1 2 1 rfl (by omega) (by omega) (by omega)).mono ?_
  rintro e w4 ⟨rfl, h4⟩
  clear r0 r1 r2 r3 r4 r5 r6 r7 r8 r9 r10 r11 c0 c1 c2 c3 c4 c5 c6 c7 c8 c9 c10 c11 cb fr fp fb
  obtain ⟨⟨r0, r1, r2, r3, r4, r5, r6, r7, r8, r9, r10, r11⟩, ⟨c0, c1, c2, c3, c4, c5, c6, c7, c8, c9, c10, c11⟩, cb, fr, fp, fb⟩ := h4.cells
  have K4 := Lib.hid (h4.put 5 (.int .i64 (nat s 1 1)) rfl)
  clear h4 K3
  go_wp2_with fail
  by_cases hs4 : s.size < 4
  · refine (next_ps_short K4.out 2 2 rfl (by omega) (by omega)).mono ?_
    rintro e w1 ⟨rfl, hb⟩
    exact ⟨rfl, .inl ⟨.inl (by omega), rfl, hb⟩⟩
  refine (next_ps K4.out 2 2 4 rfl rfl (by omega)).mono ?_
  rintro e w5 ⟨rfl, h5⟩
  clear r0 r1 r2 r3 r4 r5 r6 r7 r8 r9 r10 r11 c0 c1 c2 c3 c4 c5 c6 c7 c8 c9 c10 c11 cb fr fp fb
  obtain ⟨⟨r0, r1, r2, r3, r4, r5, r6, r7, r8, r9, r10, r11⟩, ⟨c0, c1, c2, c3, c4, c5, c6, c7, c8, c9, c10, c11⟩, cb, fr, fp, fb⟩ := h5.cells
  have K5 := Lib.hid h5
  clear h5 K4
  go_wp2_with fail
  refine (get_ps K5.out 2 4 2 rfl (by omega) (by omega) (by omega)).mono ?_
  rintro e w6 ⟨rfl, h6⟩
  clear r0 r1 r2 r3 r4 r5 r6 r7 r8 r9 r10 r11 c0 c1 c2 c3 c4 c5 c6 c7 c8 c9 c10 c11 cb fr fp fb
  obtain ⟨⟨r0, r1, r2, r3, r4, r5, r6, r7, r8, r9, r10, r11⟩, ⟨c0, c1, c2, c3, c4, c5, c6, c7, c8, c9, c10, c11⟩, cb, fr, fp, fb⟩ := h6.cells
  have K6 := Lib.hid h6
  clear h6 K5
  go_wp2_with fail
  by_cases hs6 : s.size < 6
  · refine (next_ps_short K6.out 2 2 rfl (by omega) (by omega)).mono ?_
    rintro e w1 ⟨rfl, hb⟩
    exact ⟨rfl, .inl ⟨.inl (by omega), rfl, hb⟩⟩
  refine (next_ps K6.out 2 2 6 rfl rfl (by omega)).mono ?_
  rintro e w7 ⟨rfl, h7⟩
  clear r0 r1 r2 r3 r4 r5 r6 r7 r8 r9 r10 r11 c0 c1 c2 c3 c4 c5 c6 c7 c8 c9 c10 c11 cb fr fp fb
  obtain ⟨⟨r0, r1, r2, r3, r4, r5, r6, r7, r8, r9, r10, r11⟩, ⟨c0, c1, c2, c3, c4, c5, c6, c7, c8, c9, c10, c11⟩, cb, fr, fp, fb⟩ := h7.cells
  have K7 := Lib.hid h7
  clear h7 K6
  go_wp2_with fail
  refine (get_ps K7.out 4 6 2 rfl (by omega) (by omega) (by omega)).mono ?_
  rintro e w8 ⟨rfl, h8⟩
  clear r0 r1 r2 r3 r4 r5 r6 r7 r8 r9 r10 r11 c0 c1 c2 c3 c4 c5 c6 c7 c8 c9 c10 c11 cb fr fp fb
  obtain ⟨⟨r0, r1, r2, r3, r4, r5, r6, r7, r8, r9, r10, r11⟩, ⟨c0, c1, c2, c3, c4, c5, c6, c7, c8, c9, c10, c11⟩, cb, fr, fp, fb⟩ := h8.cells
  have K8 := Lib.hid (h8.put 6 (.int .i64 (nat s 4 2)) rfl)
  clear h8 K7
  go_wp2_with fail
  by_cases hs8 : s.size < 8
  · refine (next_ps_short K8.out 2 2 rfl (by omega) (by omega)).mono ?_
    rintro e w1 ⟨rfl, hb⟩
    exact ⟨rfl, .inl ⟨.inl (by omega), rfl, hb⟩⟩
  refine (next_ps K8.out 2 2 8 rfl rfl (by omega)).mono ?_
  rintro e w9 ⟨rfl, h9⟩
  clear r0 r1 r2 r3 r4 r5 r6 r7 r8 r9 r10 r11 c0 c1 c2 c3 c4 c5 c6 c7 c8 c9 c10 c11 cb fr fp fb
  obtain ⟨⟨r0, r1, r2, r3, r4, r5, r6, r7, r8, r9, r10, r11⟩, ⟨c0, c1, c2, c3, c4, c5, c6, c7, c8, c9, c10, c11⟩, cb, fr, fp, fb⟩ := h9.cells
  have K9 := Lib.hid h9
  clear h9 K8
  go_wp2_with fail
  refine (get_ps K9.out 6 8 2 rfl (by omega) (by omega) (by omega)).mono ?_
  rintro e w10 ⟨rfl, h10⟩
  clear r0 r1 r2 r3 r4 r5 r6 r7 r8 r9 r10 r11 c0 c1 c2 c3 c4 c5 c6 c7 c8 c9 c10 c11 cb fr fp fb
  obtain ⟨⟨r0, r1, r2, r3, r4, r5, r6, r7, r8, r9, r10, r11⟩, ⟨c0, c1, c2, c3, c4, c5, c6, c7, c8, c9, c10, c11⟩, cb, fr, fp, fb⟩ := h10.cells
  have K10 := Lib.hid ((h10.put 7 (.int .i64 (nat s 6 2 / 8192)) rfl).put 8 (.int .i64 (nat s 6 2 % 8192)) rfl)
  clear h10 K9
  go_wp2_with fail
  by_cases hs10 : s.size < 9
  · refine (next_ps_short K10.out 1 1 rfl (by omega) (by omega)).mono ?_
    rintro e w1 ⟨rfl, hb⟩
    exact ⟨rfl, .inl ⟨.inl (by omega), rfl, hb⟩⟩
  refine (next_ps K10.out 1 1 9 rfl rfl (by omega)).mono ?_
  rintro e w11 ⟨rfl, h11⟩
  clear r0 r1 r2 r3 r4 r5 r6 r7 r8 r9 r10 r11 c0 c1 c2 c3 c4 c5 c6 c7 c8 c9 c10 c11 cb fr fp fb
  obtain ⟨⟨r0, r1, r2, r3, r4, r5, r6, r7, r8, r9, r10, r11⟩, ⟨c0, c1, c2, c3, c4, c5, c6, c7, c8, c9, c10, c11⟩, cb, fr, fp, fb⟩ := h11.cells
  have K11 := Lib.hid h11
  clear h11 K10
  go_wp2_with fail
  refine (get_ps K11.out 8 9 1 rfl (by omega) (by omega) (by omega)).mono ?_
  rintro e w12 ⟨rfl, h12⟩
  clear r0 r1 r2 r3 r4 r5 r6 r7 r8 r9 r10 r11 c0 c1 c2 c3 c4 c5 c6 c7 c8 c9 c10 c11 cb fr fp fb
  obtain ⟨⟨r0, r1, r2, r3, r4, r5, r6, r7, r8, r9, r10, r11⟩, ⟨c0, c1, c2, c3, c4, c5, c6, c7, c8, c9, c10, c11⟩, cb, fr, fp, fb⟩ := h12.cells
  have K12 := Lib.hid (h12.put 4 (.int .i64 (nat s 8 1)) rfl)
  clear h12 K11
  go_wp2_with fail
  by_cases hs12 : s.size < 10
  · refine (next_ps_short K12.out 1 1 rfl (by omega) (by omega)).mono ?_
    rintro e w1 ⟨rfl, hb⟩
    exact ⟨rfl, .inl ⟨.inl (by omega), rfl, hb⟩⟩
  refine (next_ps K12.out 1 1 10 rfl rfl (by omega)).mono ?_
  rintro e w13 ⟨rfl, h13⟩
  clear r0 r1 r2 r3 r4 r5 r6 r7 r8 r9 r10 r11 c0 c1 c2 c3 c4 c5 c6 c7 c8 c9 c10 c11 cb fr fp fb
  obtain ⟨⟨r0, r1, r2, r3, r4, r5, r6, r7, r8, r9, r10, r11⟩, ⟨c0, c1, c2, c3, c4, c5, c6, c7, c8, c9, c10, c11⟩, cb, fr, fp, fb⟩ := h13.cells
  have K13 := Lib.hid h13
  clear h13 K12
  go_wp2_with fail
  refine (get_ps K13.out 9 10 1 rfl (by omega) (by omega) (by omega)).mono ?_
  rintro e w14 ⟨rfl, h14⟩
  clear r0 r1 r2 r3 r4 r5 r6 r7 r8 r9 r10 r11 c0 c1 c2 c3 c4 c5 c6 c7 c8 c9 c10 c11 cb fr fp fb
  obtain ⟨⟨r0, r1, r2, r3, r4, r5, r6, r7, r8, r9, r10, r11⟩, ⟨c0, c1, c2, c3, c4, c5, c6, c7, c8, c9, c10, c11⟩, cb, fr, fp, fb⟩ := h14.cells
  have K14 := Lib.hid (h14.put 3 (.int .i64 (nat s 9 1)) rfl)
  clear h14 K13
  go_wp2_with fail
  by_cases hs14 : s.size < 12
  · refine (next_ps_short K14.out 2 2 rfl (by omega) (by omega)).mono ?_
    rintro e w1 ⟨rfl, hb⟩
    exact ⟨rfl, .inl ⟨.inl (by omega), rfl, hb⟩⟩
  refine (next_ps K14.out 2 2 12 rfl rfl (by omega)).mono ?_
  rintro e w15 ⟨rfl, h15⟩
  clear r0 r1 r2 r3 r4 r5 r6 r7 r8 r9 r10 r11 c0 c1 c2 c3 c4 c5 c6 c7 c8 c9 c10 c11 cb fr fp fb
  obtain ⟨⟨r0, r1, r2, r3, r4, r5, r6, r7, r8, r9, r10, r11⟩, ⟨c0, c1, c2, c3, c4, c5, c6, c7, c8, c9, c10, c11⟩, cb, fr, fp, fb⟩ := h15.cells
  have K15 := Lib.hid h15
  clear h15 K14
  go_wp2_with fail
  by_cases hs15 : s.size < 16
  · refine (next_ps_short K15.out 4 4 rfl (by omega) (by omega)).mono ?_
    rintro e w1 ⟨rfl, hb⟩
    exact ⟨rfl, .inl ⟨.inl (by omega), rfl, hb⟩⟩
  refine (next_ps K15.out 4 4 16 rfl rfl (by omega)).mono ?_
  rintro e w16 ⟨rfl, h16⟩
  clear r0 r1 r2 r3 r4 r5 r6 r7 r8 r9 r10 r11 c0 c1 c2 c3 c4 c5 c6 c7 c8 c9 c10 c11 cb fr fp fb
  obtain ⟨⟨r0, r1, r2, r3, r4, r5, r6, r7, r8, r9, r10, r11⟩, ⟨c0, c1, c2, c3, c4, c5, c6, c7, c8, c9, c10, c11⟩, cb, fr, fp, fb⟩ := h16.cells
  have K16 := Lib.hid (h16.put 1 (.string (s.extract 12 16)) rfl)
  clear h16 K15
  go_wp2_with fail
  by_cases hs16 : s.size < 20
  · refine (next_ps_short K16.out 4 4 rfl (by omega) (by omega)).mono ?_
    rintro e w1 ⟨rfl, hb⟩
    exact ⟨rfl, .inl ⟨.inl (by omega), rfl, hb⟩⟩
  refine (next_ps K16.out 4 4 20 rfl rfl (by omega)).mono ?_
  rintro e w17 ⟨rfl, h17⟩
  clear r0 r1 r2 r3 r4 r5 r6 r7 r8 r9 r10 r11 c0 c1 c2 c3 c4 c5 c6 c7 c8 c9 c10 c11 cb fr fp fb
  obtain ⟨⟨r0, r1, r2, r3, r4, r5, r6, r7, r8, r9, r10, r11⟩, ⟨c0, c1, c2, c3, c4, c5, c6, c7, c8, c9, c10, c11⟩, cb, fr, fp, fb⟩ := h17.cells
  have K17 := Lib.hid (h17.put 2 (.string (s.extract 16 20)) rfl)
  clear h17 K16
  by_cases hN : K < 5
  · have hb4 := Lib.hid (show ¬ form4 s from fun h => by have := h.1; omega)
    have hs4 := Lib.hid (show ¬ short4 s from fun h => by rcases h with h | h <;> omega)
    go_wp2_with fail
    obtain ⟨X, hX⟩ : ∃ X, s.extract 20 20 = X := ⟨_, rfl⟩
    have A := next_ps K17.out 0 0 20 rfl rfl (by omega)
    rw [hX] at A
    refine A.mono ?_
    clear hX
    rintro e w18 ⟨rfl, h18⟩
    clear r0 r1 r2 r3 r4 r5 r6 r7 r8 r9 r10 r11 c0 c1 c2 c3 c4 c5 c6 c7 c8 c9 c10 c11 cb fr fp fb
    obtain ⟨⟨r0, r1, r2, r3, r4, r5, r6, r7, r8, r9, r10, r11⟩, ⟨c0, c1, c2, c3, c4, c5, c6, c7, c8, c9, c10, c11⟩, cb, fr, fp, fb⟩ := h18.cells
    have K18 := Lib.hid (h18.put 10 (.string X) rfl)
    clear h18 K17
    go_wp2_with fail
    have hZ := K18.out.ret (0) (⟨#[]⟩) (⟨#[]⟩) (0) (0) (0) (0) (0) (0) (0) (⟨#[]⟩) (⟨#[]⟩)
    exact bodyPost_ret (v := .tuple #[.agg pkZ, .int .i64 71]) (parse4_results _ _ w.heap.size rfl rfl hZ.1) rfl (.inr (.inl ⟨hs4.out, hb4.out, rfl, hZ.2⟩))
  · have q0 : ¬ (4 * (K : Int) < 20) := by omega
    go_wp2_with fail
    by_cases hsK : s.size < 4 * K
    · refine (next_ps_short K17.out (4 * (K : Int) - 20) (4 * K - 20) (by omega) (by omega) (by omega)).mono ?_
      rintro e w1 ⟨rfl, hb⟩
      exact ⟨rfl, .inl ⟨.inr (by omega), rfl, hb⟩⟩
    have hs4 := Lib.hid (show ¬ short4 s from fun h => by rcases h with h | h <;> omega)
    refine (next_ps K17.out (4 * (K : Int) - 20) (4 * K - 20) (4 * K) (by omega) (by omega) (by omega)).mono ?_
    rintro e w18 ⟨rfl, h18⟩
    clear r0 r1 r2 r3 r4 r5 r6 r7 r8 r9 r10 r11 c0 c1 c2 c3 c4 c5 c6 c7 c8 c9 c10 c11 cb fr fp fb
    obtain ⟨⟨r0, r1, r2, r3, r4, r5, r6, r7, r8, r9, r10, r11⟩, ⟨c0, c1, c2, c3, c4, c5, c6, c7, c8, c9, c10, c11⟩, cb, fr, fp, fb⟩ := h18.cells
    have K18 := Lib.hid (h18.put 10 (.string (s.extract 20 (4 * K))) rfl)
    clear h18 K17
    by_cases hF : nat s 6 2 / 8192 ≤ 3
    · by_cases hT : nat s 2 2 = s.size
      · have hT' : ((nat s 2 2 : Int) == (s.size : Int)) = true := by rw [hT]; simp
        have hfm := Lib.hid (show form4 s from ⟨by omega, hF, hT⟩)
        have hzh : (s.extract 0 (4 * K)).size = 4 * K := by simp [ByteArray.size_extract]; omega
        have A := fun W => summed_any (s.extract 0 (4 * K)) W (by omega) (by omega)
        obtain ⟨Y, hY⟩ : ∃ Y, sumd (s.extract 0 (4 * K)) = Y := ⟨_, rfl⟩
        rw [hY] at A
        have HA := Lib.hid A
        have HY := Lib.hid hY
        have i1 : (4 * (K : Int)).toNat = 4 * K := by omega
        clear A hzh hY
        go_wp2_with fail
        refine (HA.out _).mono ?_
        rintro e w30 ⟨rfl, hq⟩
        have h30 := (K18.out).on hq
        clear r0 r1 r2 r3 r4 r5 r6 r7 r8 r9 r10 r11 c0 c1 c2 c3 c4 c5 c6 c7 c8 c9 c10 c11 cb fr fp fb
        obtain ⟨⟨r0, r1, r2, r3, r4, r5, r6, r7, r8, r9, r10, r11⟩, ⟨c0, c1, c2, c3, c4, c5, c6, c7, c8, c9, c10, c11⟩, cb, fr, fp, fb⟩ := h30.cells
        clear hq
        by_cases hE : Y = s.extract 0 (4 * K)
        · have hsm := Lib.hid (show sum4 s by unfold sum4; rw [eN, HY.out]; exact hE)
          subst hE
          have K30 := Lib.hid (h30.put 11 (.string (s.extract (4 * K) s.size)) rfl)
          clear h30
          go_wp2_with fail
          have hR := K30.out.ret (4) (s.extract 12 16) (s.extract 16 20) (nat s 9 1) (nat s 8 1) (nat s 1 1) (nat s 4 2) (nat s 6 2 / 8192) (nat s 6 2 % 8192) (0) (s.extract 20 (4 * K)) (s.extract (4 * K) s.size)
          refine bodyPost_ret (v := .tuple #[.agg (pkC (pk4 s)), .int .i64 0]) ((parse4_results _ _ w.heap.size rfl rfl hR.1).trans ?_) rfl (.inr (.inr (.inr ⟨hs4.out, hfm.out, hsm.out, rfl, hR.2⟩)))
          unfold pk4 pkC pkL
          rw [eN]
        · have hsm := Lib.hid (show ¬ sum4 s by unfold sum4; rw [eN, HY.out]; exact hE)
          have hne := str_ne hE
          clear hE
          go_wp2_with fail
          have hZ := h30.ret (0) (⟨#[]⟩) (⟨#[]⟩) (0) (0) (0) (0) (0) (0) (0) (⟨#[]⟩) (⟨#[]⟩)
          exact bodyPost_ret (v := .tuple #[.agg pkZ, .int .i64 72]) (parse4_results _ _ w.heap.size rfl rfl hZ.1) rfl (.inr (.inr (.inl ⟨hs4.out, hfm.out, hsm.out, rfl, hZ.2⟩)))
      · have hT' : ((nat s 2 2 : Int) != (s.size : Int)) = true := by simpa using (by omega : (nat s 2 2 : Int) ≠ s.size)
        have hb4 := Lib.hid (show ¬ form4 s from fun h => hT h.2.2)
        go_wp2_with fail
        have hZ := K18.out.ret (0) (⟨#[]⟩) (⟨#[]⟩) (0) (0) (0) (0) (0) (0) (0) (⟨#[]⟩) (⟨#[]⟩)
        exact bodyPost_ret (v := .tuple #[.agg pkZ, .int .i64 71]) (parse4_results _ _ w.heap.size rfl rfl hZ.1) rfl (.inr (.inl ⟨hs4.out, hb4.out, rfl, hZ.2⟩))
    · have hb4 := Lib.hid (show ¬ form4 s from fun h => hF h.2.1)
      go_wp2_with fail
      have hZ := K18.out.ret (0) (⟨#[]⟩) (⟨#[]⟩) (0) (0) (0) (0) (0) (0) (0) (⟨#[]⟩) (⟨#[]⟩)
      exact bodyPost_ret (v := .tuple #[.agg pkZ, .int .i64 71]) (parse4_results _ _ w.heap.size rfl rfl hZ.1) rfl (.inr (.inl ⟨hs4.out, hb4.out, rfl, hZ.2⟩))
end Go.Proofs.Ytalkpllmcigjnaa
namespace Go.Proofs.Ytalkpllmcigjnaa
open Go.RowKit

def form6 (s : ByteArray) : Prop := nat s 4 2 + 40 = s.size
def pk6 (s : ByteArray) : Pk := ⟨6, s.extract 8 24, s.extract 24 40, nat s 6 1, nat s 7 1, (nat s 0 4 : Int) / 1048576 % 256, 0, 0, 0, (nat s 0 4 : Int) % 1048576, ⟨#[]⟩, s.extract 40 s.size⟩
/-- how parse6 ends -/
def P6 (s : ByteArray) (w : World) (e : Ending) (w' : World) : Prop :=
  s.size < 40 ∧ Panics w e w' ∨ 40 ≤ s.size ∧ ¬ form6 s ∧ Answers w pkZ 71 e w' ∨ 40 ≤ s.size ∧ form6 s ∧ Answers w (pkC (pk6 s)) 0 e w'
theorem parse6_results (w : World) (tmps : Array Value) (gf : Nat) {n : Int} (h2 : tmps[2]?.getD undef = .pointer (some ⟨gf, 0, none⟩)) (h3 : tmps[3]?.getD undef = .int .i64 n) {v : Int} {src dst : ByteArray} {proto hops cls id flags off label : Int} {opt body : ByteArray}
    (hF : Blk w gf 36 (pkL v src dst proto hops cls id flags off label opt body)) : (results Try.f103 tmps).run Try.prog w = .ok (.tuple #[.agg (pkL v src dst proto hops cls id flags off label opt body), .int .i64 n]) w := by
  have c0 := hF.cell 0
  have c1 := hF.cell 1
  have c2 := hF.cell 2
  have c3 := hF.cell 3
  have c4 := hF.cell 4
  have c5 := hF.cell 5
  have c6 := hF.cell 6
  have c7 := hF.cell 7
  have c8 := hF.cell 8
  have c9 := hF.cell 9
  have c10 := hF.cell 10
  have c11 := hF.cell 11
  simp only [pkL] at c0 c1 c2 c3 c4 c5 c6 c7 c8 c9 c10 c11
  simp [results, Try.results103, go_sem, h2, h3, c0, c1, c2, c3, c4, c5, c6, c7, c8, c9, c10, c11, pkL]
set_option maxRecDepth 100000 in
set_option maxHeartbeats 2400000 in
theorem parse6_any (s : ByteArray) (w : World) (hsz : s.size ≤ 281474976710656) : Calls Try.prog 103 #[.string s] w (P6 s w) := by
  have hmf := make_func
  have eA := low8 ((nat s 0 4 : Int) / 1048576)
  have eB := low20 (nat s 0 4 : Int)
  have l0 := nat_lt s 0 4
  have l4 := nat_lt s 4 2
  have H0 := Lib.hid (PS.new w s 6)
  go_enter Try.func103, Try.ntmps103
  go_wp2_with fail
  refine (reader_any _ _).mono ?_
  rintro e w0 ⟨rfl, rfl⟩
  go_wp2_with fail
  by_cases hs0 : s.size < 4
  · refine (next_ps_short H0.out 4 4 rfl (by omega) (by omega)).mono ?_
    rintro e w1 ⟨rfl, hb⟩
    exact ⟨rfl, .inl ⟨by omega, rfl, hb⟩⟩
  refine (next_ps H0.out 4 4 4 rfl rfl (by omega)).mono ?_
  rintro e w1 ⟨rfl, h1⟩
  obtain ⟨⟨r0, r1, r2, r3, r4, r5, r6, r7, r8, r9, r10, r11⟩, ⟨c0, c1, c2, c3, c4, c5, c6, c7, c8, c9, c10, c11⟩, cb, fr, fp, fb⟩ := h1.cells
  have K1 := Lib.hid h1
  clear h1 H0
  go_wp2_with fail
  refine (get_ps K1.out 0 4 4 rfl (by omega) (by omega) (by omega)).mono ?_
  rintro e w2 ⟨rfl, h2⟩
  clear r0 r1 r2 r3 r4 r5 r6 r7 r8 r9 r10 r11 c0 c1 c2 c3 c4 c5 c6 c7 c8 c9 c10 c11 cb fr fp fb
  obtain ⟨⟨r0, r1, r2, r3, r4, r5, r6, r7, r8, r9, r10, r11⟩, ⟨c0, c1, c2, c3, c4, c5, c6, c7, c8, c9, c10, c11⟩, cb, fr, fp, fb⟩ := h2.cells
  have K2 := Lib.hid ((h2.put 5 (.int .i64 ((nat s 0 4 : Int) / 1048576 % 256)) rfl).put 9 (.int .i64 ((nat s 0 4 : Int) % 1048576)) rfl)
  clear h2 K1
  go_wp2_with fail
  by_cases hs2 : s.size < 6
  · refine (next_ps_short K2.out 2 2 rfl (by omega) (by omega)).mono ?_
    rintro e w1 ⟨rfl, hb⟩
    exact ⟨rfl, .inl ⟨by omega, rfl, hb⟩⟩
  refine (next_ps K2.out 2 2 6 rfl rfl (by omega)).mono ?_
  rintro e w3 ⟨rfl, h3⟩
  clear r0 r1 r2 r3 r4 r5 r6 r7 r8 r9 r10 r11 c0 c1 c2 c3 c4 c5 c6 c7 c8 c9 c10 c11 cb fr fp fb
  obtain ⟨⟨r0, r1, r2, r3, r4, r5, r6, r7, r8, r9, r10, r11⟩, ⟨c0, c1, c2, c3, c4, c5, c6, c7, c8, c9, c10, c11⟩, cb, fr, fp, fb⟩ := h3.cells
  have K3 := Lib.hid h3
  clear h3 K2
  go_wp2_with fail
  refine (get_ps K3.out 4 6 2 rfl (by omega) (by omega) (by omega)).mono ?_
  rintro e w4 ⟨rfl, h4⟩
  clear r0 r1 r2 r3 r4 r5 r6 r7 r8 r9 r10 r11 c0 c1 c2 c3 c4 c5 c6 c7 c8 c9 c10 c11 cb fr fp fb
  obtain ⟨⟨r0, r1, r2, r3, r4, r5, r6, r7, r8, r9, r10, r11⟩, ⟨c0, c1, c2, c3, c4, c5, c6, c7, c8, c9, c10, c11⟩, cb, fr, fp, fb⟩ := h4.cells
  have K4 := Lib.hid h4
  clear h4 K3
  go_wp2_with fail
  by_cases hs4 : s.size < 7
  · refine (next_ps_short K4.out 1 1 rfl (by omega) (by omega)).mono ?_
    rintro e w1 ⟨rfl, hb⟩
    exact ⟨rfl, .inl ⟨by omega, rfl, hb⟩⟩
  refine (next_ps K4.out 1 1 7 rfl rfl (by omega)).mono ?_
  rintro e w5 ⟨rfl, h5⟩
  clear r0 r1 r2 r3 r4 r5 r6 r7 r8 r9 r10 r11 c0 c1 c2 c3 c4 c5 c6 c7 c8 c9 c10 c11 cb fr fp fb
  obtain ⟨⟨r0, r1, r2, r3, r4, r5, r6, r7, r8, r9, r10, r11⟩, ⟨c0, c1, c2, c3, c4, c5, c6, c7, c8, c9, c10, c11⟩, cb, fr, fp, fb⟩ := h5.cells
  have K5 := Lib.hid h5
  clear h5 K4
  go_wp2_with fail
  refine (get_ps K5.out 6 7 1 rfl (by omega) (by omega) (by omega)).mono ?_
  rintro e w6 ⟨rfl, h6⟩
  clear r0 r1 r2 r3 r4 r5 r6 r7 r8 r9 r10 r11 c0 c1 c2 c3 c4 c5 c6 c7 c8 c9 c10 c11 cb fr fp fb
  obtain ⟨⟨r0, r1, r2, r3, r4, r5, r6, r7, r8, r9, r10, r11⟩, ⟨c0, c1, c2, c3, c4, c5, c6, c7, c8, c9, c10, c11⟩, cb, fr, fp, fb⟩ := h6.cells
  have K6 := Lib.hid (h6.put 3 (.int .i64 (nat s 6 1)) rfl)
  clear h6 K5
  go_wp2_with fail
  by_cases hs6 : s.size < 8
  · refine (next_ps_short K6.out 1 1 rfl (by omega) (by omega)).mono ?_
    rintro e w1 ⟨rfl, hb⟩
    exact ⟨rfl, .inl ⟨by omega, rfl, hb⟩⟩
  refine (next_ps K6.out 1 1 8 rfl rfl (by omega)).mono ?_
  rintro e w7 ⟨rfl, h7⟩
  clear r0 r1 r2 r3 r4 r5 r6 r7 r8 r9 r10 r11 c0 c1 c2 c3 c4 c5 c6 c7 c8 c9 c10 c11 cb fr fp fb
  obtain ⟨⟨r0, r1, r2, r3, r4, r5, r6, r7, r8, r9, r10, r11⟩, ⟨c0, c1, c2, c3, c4, c5, c6, c7, c8, c9, c10, c11⟩, cb, fr, fp, fb⟩ := h7.cells
  have K7 := Lib.hid h7
  clear h7 K6
  go_wp2_with fail
  refine (get_ps K7.out 7 8 1 rfl (by omega) (by omega) (by omega)).mono ?_
  rintro e w8 ⟨rfl, h8⟩
  clear r0 r1 r2 r3 r4 r5 r6 r7 r8 r9 r10 r11 c0 c1 c2 c3 c4 c5 c6 c7 c8 c9 c10 c11 cb fr fp fb
  obtain ⟨⟨r0, r1, r2, r3, r4, r5, r6, r7, r8, r9, r10, r11⟩, ⟨c0, c1, c2, c3, c4, c5, c6, c7, c8, c9, c10, c11⟩, cb, fr, fp, fb⟩ := h8.cells
  have K8 := Lib.hid (h8.put 4 (.int .i64 (nat s 7 1)) rfl)
  clear h8 K7
  go_wp2_with fail
  by_cases hs8 : s.size < 24
  · refine (next_ps_short K8.out 16 16 rfl (by omega) (by omega)).mono ?_
    rintro e w1 ⟨rfl, hb⟩
    exact ⟨rfl, .inl ⟨by omega, rfl, hb⟩⟩
  refine (next_ps K8.out 16 16 24 rfl rfl (by omega)).mono ?_
  rintro e w9 ⟨rfl, h9⟩
  clear r0 r1 r2 r3 r4 r5 r6 r7 r8 r9 r10 r11 c0 c1 c2 c3 c4 c5 c6 c7 c8 c9 c10 c11 cb fr fp fb
  obtain ⟨⟨r0, r1, r2, r3, r4, r5, r6, r7, r8, r9, r10, r11⟩, ⟨c0, c1, c2, c3, c4, c5, c6, c7, c8, c9, c10, c11⟩, cb, fr, fp, fb⟩ := h9.cells
  have K9 := Lib.hid (h9.put 1 (.string (s.extract 8 24)) rfl)
  clear h9 K8
  go_wp2_with fail
  by_cases hs9 : s.size < 40
  · refine (next_ps_short K9.out 16 16 rfl (by omega) (by omega)).mono ?_
    rintro e w1 ⟨rfl, hb⟩
    exact ⟨rfl, .inl ⟨by omega, rfl, hb⟩⟩
  refine (next_ps K9.out 16 16 40 rfl rfl (by omega)).mono ?_
  rintro e w10 ⟨rfl, h10⟩
  clear r0 r1 r2 r3 r4 r5 r6 r7 r8 r9 r10 r11 c0 c1 c2 c3 c4 c5 c6 c7 c8 c9 c10 c11 cb fr fp fb
  obtain ⟨⟨r0, r1, r2, r3, r4, r5, r6, r7, r8, r9, r10, r11⟩, ⟨c0, c1, c2, c3, c4, c5, c6, c7, c8, c9, c10, c11⟩, cb, fr, fp, fb⟩ := h10.cells
  have K10 := Lib.hid ((h10.put 2 (.string (s.extract 24 40)) rfl).put 11 (.string (s.extract 40 s.size)) rfl)
  clear h10 K9
  have hz : (s.extract 40 s.size).size = s.size - 40 := by simp [ByteArray.size_extract]
  by_cases hT : nat s 4 2 + 40 = s.size
  · have hT' : ((nat s 4 2 : Int) == ((s.size - 40 : Nat) : Int)) = true := by simpa using (by omega : (nat s 4 2 : Int) = ((s.size - 40 : Nat) : Int))
    go_wp2_with fail
    have hR := K10.out.ret (6) (s.extract 8 24) (s.extract 24 40) (nat s 6 1) (nat s 7 1) ((nat s 0 4 : Int) / 1048576 % 256) (0) (0) (0) ((nat s 0 4 : Int) % 1048576) (⟨#[]⟩) (s.extract 40 s.size)
    exact bodyPost_ret (v := .tuple #[.agg (pkC (pk6 s)), .int .i64 0]) (parse6_results _ _ w.heap.size rfl rfl hR.1) rfl (.inr (.inr ⟨by omega, hT, rfl, hR.2⟩))
  · have hT' : ((nat s 4 2 : Int) == ((s.size - 40 : Nat) : Int)) = false := by simpa using (by omega : (nat s 4 2 : Int) ≠ ((s.size - 40 : Nat) : Int))
    go_wp2_with fail
    have hZ := K10.out.ret (0) (⟨#[]⟩) (⟨#[]⟩) (0) (0) (0) (0) (0) (0) (0) (⟨#[]⟩) (⟨#[]⟩)
    exact bodyPost_ret (v := .tuple #[.agg pkZ, .int .i64 71]) (parse6_results _ _ w.heap.size rfl rfl hZ.1) rfl (.inr (.inl ⟨by omega, hT, rfl, hZ.2⟩))
end Go.Proofs.Ytalkpllmcigjnaa
namespace Go.Proofs.Ytalkpllmcigjnaa
open Go.RowKit

theorem set12 {w : World} {g : Nat} {t : TypeId} {c0 c1 c2 c3 c4 c5 c6 c7 c8 c9 c10 c11 : Value} (h : Blk w g t #[c0, c1, c2, c3, c4, c5, c6, c7, c8, c9, c10, c11]) (x0 x1 x2 x3 x4 x5 x6 x7 x8 x9 x10 x11 : Value) : Blk ((((((((((((w.setCell ⟨g, 0, none⟩ x0).setCell ⟨g, 1, none⟩ x1).setCell ⟨g, 2, none⟩ x2).setCell ⟨g, 3, none⟩ x3).setCell ⟨g, 4, none⟩ x4).setCell ⟨g, 5, none⟩ x5).setCell ⟨g, 6, none⟩ x6).setCell ⟨g, 7, none⟩ x7).setCell ⟨g, 8, none⟩ x8).setCell ⟨g, 9, none⟩ x9).setCell ⟨g, 10, none⟩ x10).setCell ⟨g, 11, none⟩ x11) g t #[x0, x1, x2, x3, x4, x5, x6, x7, x8, x9, x10, x11] :=
  ((((((((((((h.put' 0 x0 (cs' := #[x0, c1, c2, c3, c4, c5, c6, c7, c8, c9, c10, c11]) rfl).put' 1 x1 (cs' := #[x0, x1, c2, c3, c4, c5, c6, c7, c8, c9, c10, c11]) rfl).put' 2 x2 (cs' := #[x0, x1, x2, c3, c4, c5, c6, c7, c8, c9, c10, c11]) rfl).put' 3 x3 (cs' := #[x0, x1, x2, x3, c4, c5, c6, c7, c8, c9, c10, c11]) rfl).put' 4 x4 (cs' := #[x0, x1, x2, x3, x4, c5, c6, c7, c8, c9, c10, c11]) rfl).put' 5 x5 (cs' := #[x0, x1, x2, x3, x4, x5, c6, c7, c8, c9, c10, c11]) rfl).put' 6 x6 (cs' := #[x0, x1, x2, x3, x4, x5, x6, c7, c8, c9, c10, c11]) rfl).put' 7 x7 (cs' := #[x0, x1, x2, x3, x4, x5, x6, x7, c8, c9, c10, c11]) rfl).put' 8 x8 (cs' := #[x0, x1, x2, x3, x4, x5, x6, x7, x8, c9, c10, c11]) rfl).put' 9 x9 (cs' := #[x0, x1, x2, x3, x4, x5, x6, x7, x8, x9, c10, c11]) rfl).put' 10 x10 (cs' := #[x0, x1, x2, x3, x4, x5, x6, x7, x8, x9, x10, c11]) rfl).put' 11 x11 (cs' := #[x0, x1, x2, x3, x4, x5, x6, x7, x8, x9, x10, x11]) rfl)
theorem other12 {w : World} {g k : Nat} {t : TypeId} {cs : Array Value} (h : Blk w k t cs) (hk : k ≠ g) (x0 x1 x2 x3 x4 x5 x6 x7 x8 x9 x10 x11 : Value) : Blk ((((((((((((w.setCell ⟨g, 0, none⟩ x0).setCell ⟨g, 1, none⟩ x1).setCell ⟨g, 2, none⟩ x2).setCell ⟨g, 3, none⟩ x3).setCell ⟨g, 4, none⟩ x4).setCell ⟨g, 5, none⟩ x5).setCell ⟨g, 6, none⟩ x6).setCell ⟨g, 7, none⟩ x7).setCell ⟨g, 8, none⟩ x8).setCell ⟨g, 9, none⟩ x9).setCell ⟨g, 10, none⟩ x10).setCell ⟨g, 11, none⟩ x11) k t cs :=
  ((((((((((((h.other hk 0 x0).other hk 1 x1).other hk 2 x2).other hk 3 x3).other hk 4 x4).other hk 5 x5).other hk 6 x6).other hk 7 x7).other hk 8 x8).other hk 9 x9).other hk 10 x10).other hk 11 x11)
theorem below12 {B : Nat} {w0 w : World} {g : Nat} (h : Below B w0 w) (hB : B ≤ g) (x0 x1 x2 x3 x4 x5 x6 x7 x8 x9 x10 x11 : Value) : Below B w0 ((((((((((((w.setCell ⟨g, 0, none⟩ x0).setCell ⟨g, 1, none⟩ x1).setCell ⟨g, 2, none⟩ x2).setCell ⟨g, 3, none⟩ x3).setCell ⟨g, 4, none⟩ x4).setCell ⟨g, 5, none⟩ x5).setCell ⟨g, 6, none⟩ x6).setCell ⟨g, 7, none⟩ x7).setCell ⟨g, 8, none⟩ x8).setCell ⟨g, 9, none⟩ x9).setCell ⟨g, 10, none⟩ x10).setCell ⟨g, 11, none⟩ x11) :=
  ((((((((((((h.setCell hB x0).setCell hB x1).setCell hB x2).setCell hB x3).setCell hB x4).setCell hB x5).setCell hB x6).setCell hB x7).setCell hB x8).setCell hB x9).setCell hB x10).setCell hB x11)
theorem assert_shortI (W : World) : (Instr.typeAssert (.iface 106 (.agg #[])) 20 106 true).run Try.prog W = .ok (.tuple #[.agg #[], .bool true]) W := by kernel_rfl
set_option maxHeartbeats 1600000 in
theorem catchI_panicking (B gf ge : Nat) (older : List PanicEntry) (w0 w : World) (hne : gf ≠ ge) (hB : B ≤ gf) (hB' : B ≤ ge) (c0 c1 c2 c3 c4 c5 c6 c7 c8 c9 c10 c11 c12 : Value)
    (hF : Blk w gf 36 #[c0, c1, c2, c3, c4, c5, c6, c7, c8, c9, c10, c11]) (hE : Blk w ge 24 #[c12]) (hb : Below B w0 w) :
    CallsD Try.prog 100 #[.pointer (some ⟨gf, 0, none⟩), .pointer (some ⟨ge, 0, none⟩)] (.panicking ({ v := shortI, recovered := false } :: older)) w fun e u' w' =>
      e = .returned (.tuple #[]) ∧ u' = .panicking ({ v := shortI, recovered := true } :: older) ∧ Blk w' gf 36 pkZ ∧ Blk w' ge 24 #[.int .i64 70] ∧ Below B w0 w' := by
  have hgf := hF.lt
  have hge := hE.lt
  have h0 := hF.cell 0
  have h1 := hF.cell 1
  have h2 := hF.cell 2
  have h3 := hF.cell 3
  have h4 := hF.cell 4
  have h5 := hF.cell 5
  have h6 := hF.cell 6
  have h7 := hF.cell 7
  have h8 := hF.cell 8
  have h9 := hF.cell 9
  have h10 := hF.cell 10
  have h11 := hF.cell 11
  have hE0 := hE.cell 0
  have f0 := hF.frozen
  have f1 := hE.frozen 0
  have hn : w.heap.size ≠ gf := by omega
  have hm : w.heap.size ≠ ge := by omega
  have KF := Lib.hid hF
  have KE := Lib.hid hE
  have KB := Lib.hid hb
  clear hF hE hb
  refine callsD_of_wpS Try.func100 rfl fun c₀ cs hu => ?_
  unfold shortI at *
  apply wpS_seq
  apply wpS_region
  simp [wpOpsS, go_sem, recoverD, hu, Try.ntmps100, Exit.thenS]
  refine wpS_of_wp ?_
  change Code.wp _ _ _ { tmps := #[Value.pointer (some { block := gf, off := 0 }), Value.pointer (some { block := ge, off := 0 }), Value.iface 106 (Value.agg #[]), undef, undef, Value.iface 106 (Value.agg #[]), undef, undef, undef, undef, undef, undef, undef, undef, undef, undef, undef], defers := [] } w
  have ha := assert_shortI
  go_wp2
  refine ⟨rfl, _, rfl, .tuple #[], by simp [results, Try.results100], rfl, rfl, ?_, ?_, ?_⟩
  · exact ((set12 KF.out (.int .i64 0) (.string ⟨#[]⟩) (.string ⟨#[]⟩) (.int .i64 0) (.int .i64 0) (.int .i64 0) (.int .i64 0) (.int .i64 0) (.int .i64 0) (.int .i64 0) (.string ⟨#[]⟩) (.string ⟨#[]⟩)).other hne 0 (.int .i64 70)).alloc _
  · exact ((other12 KE.out hne.symm (.int .i64 0) (.string ⟨#[]⟩) (.string ⟨#[]⟩) (.int .i64 0) (.int .i64 0) (.int .i64 0) (.int .i64 0) (.int .i64 0) (.int .i64 0) (.int .i64 0) (.string ⟨#[]⟩) (.string ⟨#[]⟩)).put 0 (.int .i64 70)).alloc _
  · exact ((below12 KB.out hB (.int .i64 0) (.string ⟨#[]⟩) (.string ⟨#[]⟩) (.int .i64 0) (.int .i64 0) (.int .i64 0) (.int .i64 0) (.int .i64 0) (.int .i64 0) (.int .i64 0) (.string ⟨#[]⟩) (.string ⟨#[]⟩)).setCell hB' _).alloc (by simp; omega) _
theorem catchI_idle (gf ge : Nat) (w : World) :
    CallsD Try.prog 100 #[.pointer (some ⟨gf, 0, none⟩), .pointer (some ⟨ge, 0, none⟩)] .returning w fun e u' w' => e = .returned (.tuple #[]) ∧ u' = .returning ∧ w' = w := by
  refine callsD_of_wpS Try.func100 rfl fun c₀ cs hu => ?_
  apply wpS_seq
  apply wpS_region
  simp [wpOpsS, go_sem, recoverD, hu, Try.ntmps100, Exit.thenS]
  refine wpS_of_wp ?_
  change Code.wp _ _ _ { tmps := #[Value.pointer (some { block := gf, off := 0 }), Value.pointer (some { block := ge, off := 0 }), Value.nilIface, undef, undef, Value.nilIface, undef, undef, undef, undef, undef, undef, undef, undef, undef, undef, undef], defers := [] } w
  go_wp2
  cases c₀
  simp_all [bodyPostS, results, Try.results100]
/-- Parse under way. -/
structure PP (w0 w : World) : Prop where
  res : Blk w w0.heap.size 36 pkZ
  er : Blk w (w0.heap.size + 1) 24 #[.int .i64 0]
  below : Below w0.heap.size w0 w
theorem PP.next {w0 w w' : World} (h : PP w0 w) (hb : Below w.heap.size w w') : PP w0 w' :=
  ⟨h.res.same (hb.block _ h.res.lt), h.er.same (hb.block _ h.er.lt), h.below.trans (hb.mono (by have := h.er.lt; omega))⟩
theorem PP.box {w0 w : World} (h : PP w0 w) (x : Value) : PP w0 (w.setCell ⟨w0.heap.size + 1 + 1, 0, none⟩ x) :=
  ⟨h.res.other (by omega) _ _, h.er.other (by omega) _ _, h.below.setCell (by show _ ≤ w0.heap.size + 1 + 1; omega) _⟩
theorem PP.new (w : World) (s : ByteArray) : PP w (((w.alloc (.cells pkZ 36)).alloc (.cells #[.int .i64 0] 24)).alloc (.cells #[.string s] 9)) := by
  refine ⟨((Blk.new w 36 _).alloc _).alloc _, ?_, (((Below.refl _ _).alloc (Nat.le_refl _) _).alloc (by simp) _).alloc (by simp; omega) _⟩
  have := (Blk.new (w.alloc (.cells pkZ 36)) 24 #[.int .i64 0]).alloc (.cells #[.string s] 9)
  simpa using this
theorem PP.cells {w0 w : World} (h : PP w0 w) : (w.cell? ⟨w0.heap.size, 0, none⟩ = some (.int .i64 0) ∧ w.cell? ⟨w0.heap.size, 1, none⟩ = some (.string ⟨#[]⟩) ∧ w.cell? ⟨w0.heap.size, 2, none⟩ = some (.string ⟨#[]⟩) ∧ w.cell? ⟨w0.heap.size, 3, none⟩ = some (.int .i64 0) ∧ w.cell? ⟨w0.heap.size, 4, none⟩ = some (.int .i64 0) ∧ w.cell? ⟨w0.heap.size, 5, none⟩ = some (.int .i64 0) ∧ w.cell? ⟨w0.heap.size, 6, none⟩ = some (.int .i64 0) ∧ w.cell? ⟨w0.heap.size, 7, none⟩ = some (.int .i64 0) ∧ w.cell? ⟨w0.heap.size, 8, none⟩ = some (.int .i64 0) ∧ w.cell? ⟨w0.heap.size, 9, none⟩ = some (.int .i64 0) ∧ w.cell? ⟨w0.heap.size, 10, none⟩ = some (.string ⟨#[]⟩) ∧ w.cell? ⟨w0.heap.size, 11, none⟩ = some (.string ⟨#[]⟩)) ∧ w.cell? ⟨w0.heap.size + 1, 0, none⟩ = some (.int .i64 0) ∧ (∀ i, w.frozen? ⟨w0.heap.size, i, none⟩ = false) ∧ w.frozen? ⟨w0.heap.size + 1, 0, none⟩ = false :=
  ⟨⟨h.res.cell 0, h.res.cell 1, h.res.cell 2, h.res.cell 3, h.res.cell 4, h.res.cell 5, h.res.cell 6, h.res.cell 7, h.res.cell 8, h.res.cell 9, h.res.cell 10, h.res.cell 11⟩, h.er.cell 0, h.res.frozen, h.er.frozen 0⟩
theorem PP.ret {w0 w : World} (h : PP w0 w) (a0 : Int) (a1 a2 : ByteArray) (a3 a4 a5 a6 a7 a8 a9 : Int) (a10 a11 : ByteArray) (n : Int) :
    Blk (((((((((((((w.setCell ⟨w0.heap.size, 0, none⟩ (.int .i64 a0)).setCell ⟨w0.heap.size, 1, none⟩ (.string a1)).setCell ⟨w0.heap.size, 2, none⟩ (.string a2)).setCell ⟨w0.heap.size, 3, none⟩ (.int .i64 a3)).setCell ⟨w0.heap.size, 4, none⟩ (.int .i64 a4)).setCell ⟨w0.heap.size, 5, none⟩ (.int .i64 a5)).setCell ⟨w0.heap.size, 6, none⟩ (.int .i64 a6)).setCell ⟨w0.heap.size, 7, none⟩ (.int .i64 a7)).setCell ⟨w0.heap.size, 8, none⟩ (.int .i64 a8)).setCell ⟨w0.heap.size, 9, none⟩ (.int .i64 a9)).setCell ⟨w0.heap.size, 10, none⟩ (.string a10)).setCell ⟨w0.heap.size, 11, none⟩ (.string a11)).setCell ⟨w0.heap.size + 1, 0, none⟩ (.int .i64 n)) w0.heap.size 36 (pkL a0 a1 a2 a3 a4 a5 a6 a7 a8 a9 a10 a11) ∧ Blk (((((((((((((w.setCell ⟨w0.heap.size, 0, none⟩ (.int .i64 a0)).setCell ⟨w0.heap.size, 1, none⟩ (.string a1)).setCell ⟨w0.heap.size, 2, none⟩ (.string a2)).setCell ⟨w0.heap.size, 3, none⟩ (.int .i64 a3)).setCell ⟨w0.heap.size, 4, none⟩ (.int .i64 a4)).setCell ⟨w0.heap.size, 5, none⟩ (.int .i64 a5)).setCell ⟨w0.heap.size, 6, none⟩ (.int .i64 a6)).setCell ⟨w0.heap.size, 7, none⟩ (.int .i64 a7)).setCell ⟨w0.heap.size, 8, none⟩ (.int .i64 a8)).setCell ⟨w0.heap.size, 9, none⟩ (.int .i64 a9)).setCell ⟨w0.heap.size, 10, none⟩ (.string a10)).setCell ⟨w0.heap.size, 11, none⟩ (.string a11)).setCell ⟨w0.heap.size + 1, 0, none⟩ (.int .i64 n)) (w0.heap.size + 1) 24 #[.int .i64 n] ∧ Below w0.heap.size w0 (((((((((((((w.setCell ⟨w0.heap.size, 0, none⟩ (.int .i64 a0)).setCell ⟨w0.heap.size, 1, none⟩ (.string a1)).setCell ⟨w0.heap.size, 2, none⟩ (.string a2)).setCell ⟨w0.heap.size, 3, none⟩ (.int .i64 a3)).setCell ⟨w0.heap.size, 4, none⟩ (.int .i64 a4)).setCell ⟨w0.heap.size, 5, none⟩ (.int .i64 a5)).setCell ⟨w0.heap.size, 6, none⟩ (.int .i64 a6)).setCell ⟨w0.heap.size, 7, none⟩ (.int .i64 a7)).setCell ⟨w0.heap.size, 8, none⟩ (.int .i64 a8)).setCell ⟨w0.heap.size, 9, none⟩ (.int .i64 a9)).setCell ⟨w0.heap.size, 10, none⟩ (.string a10)).setCell ⟨w0.heap.size, 11, none⟩ (.string a11)).setCell ⟨w0.heap.size + 1, 0, none⟩ (.int .i64 n)) :=
  ⟨(set12 h.res (.int .i64 a0) (.string a1) (.string a2) (.int .i64 a3) (.int .i64 a4) (.int .i64 a5) (.int .i64 a6) (.int .i64 a7) (.int .i64 a8) (.int .i64 a9) (.string a10) (.string a11)).other (by omega) 0 _, (other12 h.er (by omega) (.int .i64 a0) (.string a1) (.string a2) (.int .i64 a3) (.int .i64 a4) (.int .i64 a5) (.int .i64 a6) (.int .i64 a7) (.int .i64 a8) (.int .i64 a9) (.string a10) (.string a11)).put 0 _, (below12 h.below (Nat.le_refl _) (.int .i64 a0) (.string a1) (.string a2) (.int .i64 a3) (.int .i64 a4) (.int .i64 a5) (.int .i64 a6) (.int .i64 a7) (.int .i64 a8) (.int .i64 a9) (.string a10) (.string a11)).setCell (by show _ ≤ w0.heap.size + 1; omega) _⟩
theorem parseI_results (w : World) (tmps : Array Value) (gf ge : Nat) {n : Int} (h2 : tmps[2]?.getD undef = .pointer (some ⟨gf, 0, none⟩)) (h3 : tmps[3]?.getD undef = .pointer (some ⟨ge, 0, none⟩)) {v : Int} {src dst : ByteArray} {proto hops cls id flags off label : Int} {opt body : ByteArray}
    (hF : Blk w gf 36 (pkL v src dst proto hops cls id flags off label opt body)) (hE : Blk w ge 24 #[.int .i64 n]) : (results Try.f66 tmps).run Try.prog w = .ok (.tuple #[.agg (pkL v src dst proto hops cls id flags off label opt body), .int .i64 n]) w := by
  have c0 := hF.cell 0
  have c1 := hF.cell 1
  have c2 := hF.cell 2
  have c3 := hF.cell 3
  have c4 := hF.cell 4
  have c5 := hF.cell 5
  have c6 := hF.cell 6
  have c7 := hF.cell 7
  have c8 := hF.cell 8
  have c9 := hF.cell 9
  have c10 := hF.cell 10
  have c11 := hF.cell 11
  have c12 := hE.cell 0
  simp only [pkL] at c0 c1 c2 c3 c4 c5 c6 c7 c8 c9 c10 c11
  simp [results, Try.results66, go_sem, h2, h3, c0, c1, c2, c3, c4, c5, c6, c7, c8, c9, c10, c11, c12, pkL]
theorem doorI_panic (w w1 : World) (tmps : Array Value) (h2 : tmps[2]?.getD undef = .pointer (some ⟨w.heap.size, 0, none⟩)) (h3 : tmps[3]?.getD undef = .pointer (some ⟨w.heap.size + 1, 0, none⟩)) (h : PP w w1) {R : Ending → World → Prop} (hR : ∀ e w', Answers w pkZ 70 e w' → R e w') :
    bodyPostD Try.prog Try.f66 R (.panic [{ v := shortI, recovered := false }])
      { tmps := tmps, defers := [{ target := .fn (.func 100) #[.pointer (some ⟨w.heap.size, 0, none⟩), .pointer (some ⟨w.heap.size + 1, 0, none⟩)], args := #[] }] } w1 := by
  refine leaves_cons (f := 100) (args := #[.pointer (some ⟨w.heap.size, 0, none⟩), .pointer (some ⟨w.heap.size + 1, 0, none⟩)]) (by simp) (by simp [go_sem]) ?_
  refine (catchI_panicking w.heap.size w.heap.size (w.heap.size + 1) [] w w1 (by omega) (Nat.le_refl _) (by omega) _ _ _ _ _ _ _ _ _ _ _ _ _ h.res h.er h.below).mono ?_
  rintro e u' w'' ⟨rfl, rfl, hF, hE, hb⟩
  exact ⟨_, parseI_results w'' tmps _ _ h2 h3 hF hE, hR _ _ ⟨rfl, hb⟩⟩
theorem doorI_ret (w w1 : World) (tmps : Array Value) (h2 : tmps[2]?.getD undef = .pointer (some ⟨w.heap.size, 0, none⟩)) (h3 : tmps[3]?.getD undef = .pointer (some ⟨w.heap.size + 1, 0, none⟩)) {v : Int} {src dst : ByteArray} {proto hops cls id flags off label : Int} {opt body : ByteArray} {n : Int}
    (h : Blk w1 w.heap.size 36 (pkL v src dst proto hops cls id flags off label opt body) ∧ Blk w1 (w.heap.size + 1) 24 #[.int .i64 n] ∧ Below w.heap.size w w1) {R : Ending → World → Prop} (hR : ∀ e w', Answers w (pkL v src dst proto hops cls id flags off label opt body) n e w' → R e w') :
    bodyPostD Try.prog Try.f66 R .ret
      { tmps := tmps, defers := [{ target := .fn (.func 100) #[.pointer (some ⟨w.heap.size, 0, none⟩), .pointer (some ⟨w.heap.size + 1, 0, none⟩)], args := #[] }] } w1 := by
  refine leaves_cons (f := 100) (args := #[.pointer (some ⟨w.heap.size, 0, none⟩), .pointer (some ⟨w.heap.size + 1, 0, none⟩)]) (by simp) (by simp [go_sem]) ?_
  refine (catchI_idle w.heap.size (w.heap.size + 1) w1).mono ?_
  rintro e u' w'' ⟨rfl, rfl, rfl⟩
  exact ⟨_, parseI_results w'' tmps _ _ h2 h3 h.1 h.2.1, hR _ _ ⟨rfl, h.2.2⟩⟩

instance (s : ByteArray) : Decidable (short4 s) := by unfold short4; exact inferInstance
instance (s : ByteArray) : Decidable (form4 s) := by unfold form4; exact inferInstance
instance (s : ByteArray) : Decidable (sum4 s) := by unfold sum4; exact inferInstance
instance (s : ByteArray) : Decidable (form6 s) := by unfold form6; exact inferInstance
/-- what Parse answers -/
def ipE (s : ByteArray) : Int :=
  if s.size < 1 then 70 else
  if nat s 0 1 / 16 = 4 then (if short4 s then 70 else if form4 s then (if sum4 s then 0 else 72) else 71) else
  if nat s 0 1 / 16 = 6 then (if s.size < 40 then 70 else if form6 s then 0 else 71) else 71
def ipP (s : ByteArray) : Pk := if ipE s = 0 then (if nat s 0 1 / 16 = 4 then pk4 s else pk6 s) else .zero
theorem one_is (s : ByteArray) (h : 1 ≤ s.size) : nat s 0 1 = s[0].toNat := by
  have hl := cutl_length s 0 1 h
  have e : cutl s 0 1 = [s[0]] := by
    apply List.ext_getElem (by rw [hl]; rfl)
    intro i h1 h2
    rw [hl] at h1
    rw [cutl_get s 0 1 i h h1]
    match i, h1 with
    | 0, _ => rfl
  rw [nat, e]
  simp [dec, val]
theorem Answers.to {w : World} {p q : Array Value} {n m : Int} {e : Ending} {w' : World} (h : Answers w p n e w') (h1 : p = q) (h2 : n = m) : Answers w q m e w' := h1 ▸ h2 ▸ h
set_option maxRecDepth 100000 in
set_option maxHeartbeats 3200000 in
theorem parseI_walk (s T : ByteArray) (C : Nat) (w : World) (hsz : s.size ≤ 281474976710656) (h1 : 1 ≤ s.size) (eT : s.extract 0 1 = T) (hT : T.size = 1) (hC : (T[0]'(by omega)).toNat = C) :
    Calls Try.prog 66 #[.string s] w fun e w' => (C / 16 = 4 ∧ (short4 s ∧ Answers w pkZ 70 e w' ∨ ¬ short4 s ∧ ¬ form4 s ∧ Answers w pkZ 71 e w' ∨ ¬ short4 s ∧ form4 s ∧ ¬ sum4 s ∧ Answers w pkZ 72 e w' ∨ ¬ short4 s ∧ form4 s ∧ sum4 s ∧ Answers w (pkC (pk4 s)) 0 e w')) ∨
      (C / 16 = 6 ∧ (s.size < 40 ∧ Answers w pkZ 70 e w' ∨ 40 ≤ s.size ∧ ¬ form6 s ∧ Answers w pkZ 71 e w' ∨ 40 ≤ s.size ∧ form6 s ∧ Answers w (pkC (pk6 s)) 0 e w')) ∨ (C / 16 ≠ 4 ∧ C / 16 ≠ 6 ∧ Answers w pkZ 71 e w') := by
  have hmf := make_func
  have H0 := Lib.hid (PP.new w s)
  have hlt : C < 256 := by rw [← hC]; exact UInt8.toNat_lt _
  go_enter_defers Try.func66, Try.ntmps66
  go_wp2_with fail
  refine (reader_any _ _).mono ?_
  rintro e w0 ⟨rfl, rfl⟩
  go_wp2_with fail
  have N : Calls Try.prog 113 #[.int .i64 1, .pointer (some ⟨w.heap.size + 1 + 1, 0, none⟩)] (((w.alloc (.cells pkZ 36)).alloc (.cells #[.int .i64 0] 24)).alloc (.cells #[.string s] 9)) fun e w' => e = .returned (.string T) ∧ PP w w' := by
    have hbx : Blk (((w.alloc (.cells pkZ 36)).alloc (.cells #[.int .i64 0] 24)).alloc (.cells #[.string s] 9)) (w.heap.size + 1 + 1) 9 #[.string s] := by
      have := Blk.new ((w.alloc (.cells pkZ 36)).alloc (.cells #[.int .i64 0] 24)) 9 #[.string s]
      simpa using this
    refine (next_ok (w.heap.size + 1 + 1) s 1 _ h1 (hbx.cell 0) (hbx.frozen 0)).mono fun e w' ⟨he, hw⟩ => ⟨by rw [he, eT], hw ▸ H0.out.box _⟩
  refine N.mono ?_
  clear N
  rintro e w1 ⟨rfl, h1'⟩
  obtain ⟨⟨r0, r1, r2, r3, r4, r5, r6, r7, r8, r9, r10, r11⟩, re, fr, fe⟩ := h1'.cells
  by_cases q4 : C / 16 = 4
  · have q4' : ((C : Int) / 16 == 4) = true := by simpa using (by omega : (C : Int) / 16 = 4)
    have A' : ∀ W, Calls Try.prog 102 #[.string s] W fun e w' => P4 s W e w' := fun W => parse4_any s W hsz
    simp only [P4, Answers, pkZ, pkL, pkC, pk4] at A'
    have A := Lib.hid A'
    clear A'
    go_wp2_with fail
    refine (A.out _).mono ?_
    rintro e w2 (⟨hs, rfl, hq⟩ | ⟨hs, hf, rfl, hq⟩ | ⟨hs, hf, hm, rfl, hq⟩ | ⟨hs, hf, hm, rfl, hq⟩)
    · refine doorI_panic w w2 _ ?_ ?_ (h1'.next hq) ?_
      · rfl
      · rfl
      · exact fun e w' h => .inl ⟨q4, .inl ⟨hs, h⟩⟩
    · have h2 := h1'.next hq
      clear hq
      clear r0 r1 r2 r3 r4 r5 r6 r7 r8 r9 r10 r11 re fr fe
      obtain ⟨⟨r0, r1, r2, r3, r4, r5, r6, r7, r8, r9, r10, r11⟩, re, fr, fe⟩ := h2.cells
      go_wp2_with fail
      refine doorI_ret w _ _ ?_ ?_ (h2.ret 0 ⟨#[]⟩ ⟨#[]⟩ 0 0 0 0 0 0 0 ⟨#[]⟩ ⟨#[]⟩ 71) ?_
      · rfl
      · rfl
      · exact fun e w' h => .inl ⟨q4, .inr (.inl ⟨hs, hf, h⟩)⟩
    · have h2 := h1'.next hq
      clear hq
      clear r0 r1 r2 r3 r4 r5 r6 r7 r8 r9 r10 r11 re fr fe
      obtain ⟨⟨r0, r1, r2, r3, r4, r5, r6, r7, r8, r9, r10, r11⟩, re, fr, fe⟩ := h2.cells
      go_wp2_with fail
      refine doorI_ret w _ _ ?_ ?_ (h2.ret 0 ⟨#[]⟩ ⟨#[]⟩ 0 0 0 0 0 0 0 ⟨#[]⟩ ⟨#[]⟩ 72) ?_
      · rfl
      · rfl
      · exact fun e w' h => .inl ⟨q4, .inr (.inr (.inl ⟨hs, hf, hm, h⟩))⟩
    · have h2 := h1'.next hq
      clear hq
      clear r0 r1 r2 r3 r4 r5 r6 r7 r8 r9 r10 r11 re fr fe
      obtain ⟨⟨r0, r1, r2, r3, r4, r5, r6, r7, r8, r9, r10, r11⟩, re, fr, fe⟩ := h2.cells
      go_wp2_with fail
      refine doorI_ret w _ _ ?_ ?_ (h2.ret 4 (s.extract 12 16) (s.extract 16 20) (nat s 9 1) (nat s 8 1) (nat s 1 1) (nat s 4 2) (nat s 6 2 / 8192) (nat s 6 2 % 8192) 0 (s.extract 20 (n4 s)) (s.extract (n4 s) s.size) 0) ?_
      · rfl
      · rfl
      · exact fun e w' h => .inl ⟨q4, .inr (.inr (.inr ⟨hs, hf, hm, h⟩))⟩
  · have q4' : ((C : Int) / 16 == 4) = false := by simpa using (by omega : (C : Int) / 16 ≠ 4)
    by_cases q6 : C / 16 = 6
    · have q6' : ((C : Int) / 16 == 6) = true := by simpa using (by omega : (C : Int) / 16 = 6)
      have A' : ∀ W, Calls Try.prog 103 #[.string s] W fun e w' => P6 s W e w' := fun W => parse6_any s W hsz
      simp only [P6, Answers, pkZ, pkL, pkC, pk6] at A'
      have A := Lib.hid A'
      clear A'
      go_wp2_with fail
      refine (A.out _).mono ?_
      rintro e w2 (⟨hs, rfl, hq⟩ | ⟨hs, hf, rfl, hq⟩ | ⟨hs, hf, rfl, hq⟩)
      · refine doorI_panic w w2 _ ?_ ?_ (h1'.next hq) ?_
        · rfl
        · rfl
        · exact fun e w' h => .inr (.inl ⟨q6, .inl ⟨hs, h⟩⟩)
      · have h2 := h1'.next hq
        clear hq
        clear r0 r1 r2 r3 r4 r5 r6 r7 r8 r9 r10 r11 re fr fe
        obtain ⟨⟨r0, r1, r2, r3, r4, r5, r6, r7, r8, r9, r10, r11⟩, re, fr, fe⟩ := h2.cells
        go_wp2_with fail
        refine doorI_ret w _ _ ?_ ?_ (h2.ret 0 ⟨#[]⟩ ⟨#[]⟩ 0 0 0 0 0 0 0 ⟨#[]⟩ ⟨#[]⟩ 71) ?_
        · rfl
        · rfl
        · exact fun e w' h => .inr (.inl ⟨q6, .inr (.inl ⟨hs, hf, h⟩)⟩)
      · have h2 := h1'.next hq
        clear hq
        clear r0 r1 r2 r3 r4 r5 r6 r7 r8 r9 r10 r11 re fr fe
        obtain ⟨⟨r0, r1, r2, r3, r4, r5, r6, r7, r8, r9, r10, r11⟩, re, fr, fe⟩ := h2.cells
        go_wp2_with fail
        refine doorI_ret w _ _ ?_ ?_ (h2.ret 6 (s.extract 8 24) (s.extract 24 40) (nat s 6 1) (nat s 7 1) ((nat s 0 4 : Int) / 1048576 % 256) 0 0 0 ((nat s 0 4 : Int) % 1048576) ⟨#[]⟩ (s.extract 40 s.size) 0) ?_
        · rfl
        · rfl
        · exact fun e w' h => .inr (.inl ⟨q6, .inr (.inr ⟨hs, hf, h⟩)⟩)
    · have q6' : ((C : Int) / 16 == 6) = false := by simpa using (by omega : (C : Int) / 16 ≠ 6)
      go_wp2_with fail
      refine doorI_ret w _ _ ?_ ?_ (h1'.ret 0 ⟨#[]⟩ ⟨#[]⟩ 0 0 0 0 0 0 0 ⟨#[]⟩ ⟨#[]⟩ 71) ?_
      · rfl
      · rfl
      · exact fun e w' h => .inr (.inr ⟨q4, q6, h⟩)
set_option maxRecDepth 100000 in
set_option maxHeartbeats 1600000 in
theorem parseI_empty (s : ByteArray) (w : World) (h1 : s.size < 1) : Calls Try.prog 66 #[.string s] w (Answers w pkZ 70) := by
  have hmf := make_func
  have H0 := Lib.hid (PP.new w s)
  go_enter_defers Try.func66, Try.ntmps66
  go_wp2_with fail
  refine (reader_any _ _).mono ?_
  rintro e w0 ⟨rfl, rfl⟩
  go_wp2_with fail
  have N : Calls Try.prog 113 #[.int .i64 1, .pointer (some ⟨w.heap.size + 1 + 1, 0, none⟩)] (((w.alloc (.cells pkZ 36)).alloc (.cells #[.int .i64 0] 24)).alloc (.cells #[.string s] 9)) fun e w' => e = .panicked [{ v := shortI, recovered := false }] ∧ PP w w' := by
    have hbx : Blk (((w.alloc (.cells pkZ 36)).alloc (.cells #[.int .i64 0] 24)).alloc (.cells #[.string s] 9)) (w.heap.size + 1 + 1) 9 #[.string s] := by
      have := Blk.new ((w.alloc (.cells pkZ 36)).alloc (.cells #[.int .i64 0] 24)) 9 #[.string s]
      simpa using this
    exact (next_short (w.heap.size + 1 + 1) s 1 _ h1 (hbx.cell 0)).mono fun e w' ⟨he, hw⟩ => ⟨he, hw ▸ H0.out⟩
  refine N.mono ?_
  rintro e w1 ⟨rfl, h1'⟩
  refine doorI_panic w w1 _ ?_ ?_ h1' ?_
  · rfl
  · rfl
  · exact fun e w' h => h
theorem ip_say {w : World} {s : ByteArray} {p : Pk} {n : Int} {e : Ending} {w' : World} (h : Answers w (pkC p) n e w') (hp : ipP s = p) (hn : ipE s = n) : e = .returned (.tuple #[(ipP s).val, .int .i64 (ipE s)]) ∧ Below w.heap.size w w' := by
  rw [hp, hn]; exact h
theorem parseI_any (s : ByteArray) (w : World) (hsz : s.size ≤ 281474976710656) :
    Calls Try.prog 66 #[.string s] w fun e w' => e = .returned (.tuple #[(ipP s).val, .int .i64 (ipE s)]) ∧ Below w.heap.size w w' := by
  by_cases h1 : s.size < 1
  · have e1 : ipE s = 70 := by rw [ipE, if_pos h1]
    exact (parseI_empty s w h1).mono fun e w' h => ip_say (p := .zero) h (by rw [ipP, e1]; rfl) e1
  · have hT : (s.extract 0 1).size = 1 := by simp [ByteArray.size_extract]; omega
    have hb : ((s.extract 0 1)[0]'(by omega)).toNat = s[0].toNat := by rw [ByteArray.getElem_extract]
    refine (parseI_walk s _ s[0].toNat w hsz (by omega) rfl hT hb).mono fun e w' h => ?_
    have hC := one_is s (by omega)
    rcases h with ⟨q, ⟨a, h⟩ | ⟨a, b, h⟩ | ⟨a, b, c, h⟩ | ⟨a, b, c, h⟩⟩ | ⟨q, ⟨a, h⟩ | ⟨a, b, h⟩ | ⟨a, b, h⟩⟩ | ⟨q, q', h⟩
    · have e1 : ipE s = 70 := by rw [ipE, if_neg h1, hC, if_pos q, if_pos a]
      exact ip_say (p := .zero) h (by rw [ipP, e1]; rfl) e1
    · have e1 : ipE s = 71 := by rw [ipE, if_neg h1, hC, if_pos q, if_neg a, if_neg b]
      exact ip_say (p := .zero) h (by rw [ipP, e1]; rfl) e1
    · have e1 : ipE s = 72 := by rw [ipE, if_neg h1, hC, if_pos q, if_neg a, if_pos b, if_neg c]
      exact ip_say (p := .zero) h (by rw [ipP, e1]; rfl) e1
    · have e1 : ipE s = 0 := by rw [ipE, if_neg h1, hC, if_pos q, if_neg a, if_pos b, if_pos c]
      exact ip_say h (by rw [ipP, if_pos e1, hC, if_pos q]) e1
    · have e1 : ipE s = 70 := by rw [ipE, if_neg h1, hC, if_neg (by omega), if_pos q, if_pos a]
      exact ip_say (p := .zero) h (by rw [ipP, e1]; rfl) e1
    · have e1 : ipE s = 71 := by rw [ipE, if_neg h1, hC, if_neg (by omega), if_pos q, if_neg (by omega), if_neg b]
      exact ip_say (p := .zero) h (by rw [ipP, e1]; rfl) e1
    · have e1 : ipE s = 0 := by rw [ipE, if_neg h1, hC, if_neg (by omega), if_pos q, if_neg (by omega), if_pos b]
      exact ip_say h (by rw [ipP, if_pos e1, hC, if_neg (by omega)]) e1
    · have e1 : ipE s = 71 := by rw [ipE, if_neg h1, hC, if_neg q, if_neg q']
      exact ip_say (p := .zero) h (by rw [ipP, e1]; rfl) e1
end Go.Proofs.Ytalkpllmcigjnaa

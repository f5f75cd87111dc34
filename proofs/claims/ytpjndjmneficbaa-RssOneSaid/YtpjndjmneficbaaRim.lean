/-
  Bytes of numbers, there and back; when a packet's sum is right: no condition.
-/
import Derived.Test.YtpjndjmneficbaaBack
import Derived.Test.YtpjndjmneficbaaRip
namespace Go.Proofs.Ytpjndjmneficbaa


theorem dec_big (l : List UInt8) : dec l true = val l.reverse := by simp [dec]
theorem enc_big (v n : Nat) : enc v n true = (digs v n).reverse := by simp [enc]
theorem digs_val : ∀ (l : List UInt8), digs (val l) l.length = l
  | [] => rfl
  | c :: l => by
    have h1 : (c.toNat + 256 * val l) / 256 = val l := by have := c.toNat_lt; omega
    have h2 : UInt8.ofNat (c.toNat + 256 * val l) = c := by
      apply UInt8.toNat_inj.1
      rw [UInt8.toNat_ofNat']
      have := c.toNat_lt
      omega
    show digs (val (c :: l)) (l.length + 1) = c :: l
    simp only [digs, val]
    rw [h1, h2, digs_val l]
theorem enc_dec (l : List UInt8) (n : Nat) (h : l.length = n) : enc (dec l true) n true = l := by
  rw [dec_big, enc_big, ← h, ← List.length_reverse, digs_val, List.reverse_reverse]
theorem lst_bs (v : Int) (n : Nat) : lst (bs v n) = enc v.toNat n true := by simp [lst, bs]
theorem nat_lst (s : ByteArray) (a n : Nat) : nat s a n = dec (((lst s).drop a).take n) true := rfl
theorem bs_nat (s : ByteArray) (a n : Nat) (h : a + n ≤ s.size) : lst (bs (nat s a n) n) = ((lst s).drop a).take n := by
  rw [lst_bs, nat_lst, Int.toNat_natCast, enc_dec]
  rw [List.length_take, List.length_drop, lst_len]; omega
theorem nat_bs (v : Int) (n : Nat) (h0 : 0 ≤ v) (h1 : v < 256 ^ n) : (dec (lst (bs v n)) true : Int) = v := by
  rw [lst_bs, dec_enc _ _ _ (by
    have e : ((256 ^ n : Nat) : Int) = 256 ^ n := pow_cast n
    omega)]
  omega
theorem cut_here (s : ByteArray) (a n : Nat) : lst (s.extract a (a + n)) = ((lst s).drop a).take n := by
  rw [lst_cut]; congr 1; omega
/-- The sum of a head, as the document looks at it. -/
theorem sum_iff (s : ByteArray) (n : Nat) (h1 : 20 ≤ n) (h2 : n ≤ s.size) : sumd (s.extract 0 n) = s.extract 0 n ↔ (65535 - onS 0 (s.extract 0 10 ++ ⟨#[0, 0]⟩ ++ s.extract 12 n) : Int) = (nat s 10 2 : Int) := by
  have hb : blank (s.extract 0 n) = s.extract 0 10 ++ ⟨#[0, 0]⟩ ++ s.extract 12 n := by
    apply lst_inj
    unfold blank
    have e : bs 0 2 = ⟨#[0, 0]⟩ := by decide
    rw [e]
    simp only [lst_app, lst_cut, ByteArray.size_extract, List.drop_zero]
    rw [List.take_take, List.drop_take, List.take_take]
    congr 3 <;> omega
  generalize hB : s.extract 0 10 ++ ⟨#[0, 0]⟩ ++ s.extract 12 n = B at *
  have hr := onS_range B 0 (by omega) (by omega)
  generalize hx : (65535 - onS 0 B : Int) = x at *
  have e1 : lst (sumd (s.extract 0 n)) = (lst s).take 10 ++ (lst (bs x 2) ++ ((lst s).drop 12).take (n - 12)) := by
    unfold sumd
    rw [hb, hx]
    have l10 : ((lst s).take 10).length = 10 := by rw [List.length_take, lst_len]; omega
    have hl : lst B = (lst s).take 10 ++ ([0, 0] ++ ((lst s).drop 12).take (n - 12)) := by
      rw [← hB, lst_app, lst_app, lst_cut, lst_cut, List.append_assoc]; rfl
    have hz : B.size = n := by rw [← lst_len, hl]; simp [lst_len]; omega
    simp only [lst_app, lst_cut, List.drop_zero, Nat.sub_zero, List.append_assoc]
    rw [hl, take_of l10, hz]
    congr 2
    have e3 : ((lst s).take 10 ++ (([0, 0] : List UInt8) ++ ((lst s).drop 12).take (n - 12))).drop 12 = ((lst s).drop 12).take (n - 12) := by
      rw [← List.append_assoc, drop_of (by simp [lst_len]; omega)]
    rw [e3]
    rw [List.take_take, Nat.min_self]
  have e2 : lst (s.extract 0 n) = (lst s).take 10 ++ (((lst s).drop 10).take 2 ++ ((lst s).drop 12).take (n - 12)) := by
    rw [lst_cut, List.drop_zero, Nat.sub_zero]
    conv => lhs; rw [show n = 10 + (2 + (n - 12)) by omega, List.take_add, List.take_add, List.drop_drop]
  constructor
  · intro h
    have h3 := congrArg lst h
    rw [e1, e2] at h3
    have h4 := List.append_cancel_left h3
    have h5 := congrArg (List.take 2) h4
    rw [take_of (by rw [lst_bs, enc_length]), take_of (by rw [List.length_take, List.length_drop, lst_len]; omega)] at h5
    have h6 := nat_bs x 2 (by omega) (by omega)
    rw [h5] at h6
    exact h6.symm
  · intro h
    apply lst_inj
    rw [e1, e2, h, bs_nat s 10 2 (by omega)]
end Go.Proofs.Ytpjndjmneficbaa

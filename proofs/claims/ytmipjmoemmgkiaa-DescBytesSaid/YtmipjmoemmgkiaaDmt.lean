/-
  The mathematics of descriptors: what is built is taken apart as it was, and the other way round; no condition beyond the numbers' sizes.
-/
import Derived.Test.YtmipjmoemmgkiaaDpa
namespace Go.Proofs.Ytmipjmoemmgkiaa

theorem pb_list (v n : Nat) : (pb v n).data.toList = digs v n := rfl
theorem desB_list (A L I F : Nat) : (desB A L I F).data.toList = digs A 8 ++ (digs L 4 ++ (digs I 2 ++ digs F 2)) := by
  unfold desB
  simp only [ByteArray.data_append, Array.toList_append, pb_list, List.append_assoc]
theorem desB_size (A L I F : Nat) : (desB A L I F).size = 16 := by
  have e : (desB A L I F).size = (desB A L I F).data.toList.length := rfl
  rw [e, desB_list]; simp [digs_length]
theorem mid (X M Y : List UInt8) (a n : Nat) (ha : X.length = a) (hn : M.length = n) : ((X ++ (M ++ Y)).drop a).take n = M := by
  subst ha hn
  rw [List.drop_left, List.take_left]
theorem gn_at (s : ByteArray) (X Y : List UInt8) (v a n : Nat) (h : s.data.toList = X ++ (digs v n ++ Y)) (ha : X.length = a) (hv : v < 256 ^ n) : gn s a n = v := by
  unfold gn cutl
  rw [h, mid X (digs v n) Y a n ha (digs_length v n), val_digs, Nat.mod_eq_of_lt hv]
theorem parse_build (A L I F : Nat) (hA : A < 18446744073709551616) (hL : L < 4294967296) (hI : I ≤ 65535) (hF : F ≤ 65535) :
    gn (desB A L I F) 0 8 = A ∧ gn (desB A L I F) 8 4 = L ∧ gn (desB A L I F) 12 2 = I ∧ gn (desB A L I F) 14 2 = F := by
  have h := desB_list A L I F
  refine ⟨gn_at _ [] _ A 0 8 h rfl (by omega), gn_at _ (digs A 8) _ L 8 4 h (digs_length _ _) (by omega), ?_, ?_⟩
  · refine gn_at _ (digs A 8 ++ digs L 4) (digs F 2) I 12 2 (by rw [h]; simp) (by simp [digs_length]) (by omega)
  · refine gn_at _ (digs A 8 ++ digs L 4 ++ digs I 2) [] F 14 2 (by rw [h]; simp) (by simp [digs_length]) (by omega)
theorem digs_val (l : List UInt8) (n : Nat) (h : l.length = n) : digs (val l) n = l := by
  induction l generalizing n with
  | nil => subst h; rfl
  | cons c l ih =>
    subst h
    have hc : c.toNat < 256 := c.toNat_lt
    have e1 : (c.toNat + 256 * val l) / 256 = val l := by omega
    have e2 : UInt8.ofNat (c.toNat + 256 * val l) = c := by
      apply UInt8.toNat_inj.1
      rw [UInt8.toNat_ofNat']; omega
    simp only [val, List.length_cons, digs, e1, e2, ih _ rfl]
theorem gn_digs (s : ByteArray) (a n : Nat) (h : a + n ≤ s.size) : digs (gn s a n) n = cutl s a n := digs_val _ n (cutl_length s a n h)
theorem build_parse (s : ByteArray) (h : s.size = 16) : desB (gn s 0 8) (gn s 8 4) (gn s 12 2) (gn s 14 2) = s := by
  have e : (desB (gn s 0 8) (gn s 8 4) (gn s 12 2) (gn s 14 2)).data.toList = s.data.toList := by
    have hl : s.data.toList.length = 16 := h
    rw [desB_list, gn_digs s 0 8 (by omega), gn_digs s 8 4 (by omega), gn_digs s 12 2 (by omega), gn_digs s 14 2 (by omega)]
    unfold cutl
    generalize s.data.toList = l at hl ⊢
    match l, hl with
    | [a, b, c, d, e, f, g, i, j, k, m, n, o, p, q, r], _ => rfl
  obtain ⟨d⟩ := s
  exact congrArg ByteArray.mk (Array.ext' e)
theorem desB_inj {A L I F B M J G : Nat} (hA : A < 18446744073709551616) (hL : L < 4294967296) (hI : I ≤ 65535) (hF : F ≤ 65535) (hB : B < 18446744073709551616) (hM : M < 4294967296) (hJ : J ≤ 65535) (hG : G ≤ 65535)
    (h : desB A L I F = desB B M J G) : A = B ∧ L = M ∧ I = J ∧ F = G := by
  obtain ⟨a1, a2, a3, a4⟩ := parse_build A L I F hA hL hI hF
  obtain ⟨b1, b2, b3, b4⟩ := parse_build B M J G hB hM hJ hG
  rw [h] at a1 a2 a3 a4
  exact ⟨a1.symm.trans b1, a2.symm.trans b2, a3.symm.trans b3, a4.symm.trans b4⟩
theorem str_ne {a b : ByteArray} (h : a ≠ b) : (a.toList == b.toList) = false := by
  rw [beq_eq_false_iff_ne, ByteArray.toList_eq, ByteArray.toList_eq]
  intro e
  exact h (by cases a; cases b; congr 1; exact Array.toList_inj.1 e)
end Go.Proofs.Ytmipjmoemmgkiaa

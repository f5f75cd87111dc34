/-
  Bytes laid over bytes; no condition.
-/
import Derived.Test.YtbpgblmhacpjlaaVc
namespace Go.Proofs.Ytbpgblmhacpjlaa
open Go.RowKit

theorem pb_list (v n : Nat) : (pb v n).data.toList = digs v n := rfl
theorem desB_list (A L I F : Nat) : (desB A L I F).data.toList = digs A 8 ++ (digs L 4 ++ (digs I 2 ++ digs F 2)) := by
  unfold desB
  simp only [ByteArray.data_append, Array.toList_append, pb_list, List.append_assoc]
theorem mid (X M Y : List UInt8) (a n : Nat) (ha : X.length = a) (hn : M.length = n) : ((X ++ (M ++ Y)).drop a).take n = M := by
  subst ha hn
  rw [List.drop_left, List.take_left]
theorem gn_at (s : ByteArray) (X Y : List UInt8) (v a n : Nat) (h : s.data.toList = X ++ (digs v n ++ Y)) (ha : X.length = a) (hv : v < 256 ^ n) : gn s a n = v := by
  unfold gn cutl
  rw [h, mid X (digs v n) Y a n ha (digs_length v n), val_digs, Nat.mod_eq_of_lt hv]
theorem parse_build (A L I F : Nat) (hA : A < 18446744073709551616) (hL : L < 4294967296) (hI : I ≤ 65535) (hF : F ≤ 65535) :
    gn (desB A L I F) 0 8 = A ∧ gn (desB A L I F) 8 4 = L ∧ gn (desB A L I F) 12 2 = I ∧ gn (desB A L I F) 14 2 = F := by
  have h := desB_list A L I F
  refine ⟨gn_at _ [] _ A 0 8 h rfl (by omega), gn_at _ (digs A 8) _ L 8 4 h (digs_length _ _) (by omega), ?_, ?_⟩
  · refine gn_at _ (digs A 8 ++ digs L 4) (digs F 2) I 12 2 (by rw [h]; simp) (by simp [digs_length]) (by omega)
  · refine gn_at _ (digs A 8 ++ digs L 4 ++ digs I 2) [] F 14 2 (by rw [h]; simp) (by simp [digs_length]) (by omega)
theorem deOf_desB (A L I F : Nat) (hA : A < 18446744073709551616) (hL : L < 4294967296) (hI : I ≤ 65535) (hF : F ≤ 65535) : deOf (desB A L I F) = ⟨A, L, I, F⟩ := by
  obtain ⟨a, b, c, d⟩ := parse_build A L I F hA hL hI hF
  unfold deOf
  rw [a, b, c, d]
theorem over_in (xs : List UInt8) (a : Nat) (s : ByteArray) (h : a + s.size ≤ xs.length) (j : Nat) : (over xs a s)[j]? = if a ≤ j ∧ j < a + s.size then s.data.toList[j - a]? else xs[j]? := by
  have hs : s.data.toList.length = s.size := rfl
  have ht : (xs.take a).length = a := by simp; omega
  unfold over
  by_cases h1 : j < a
  · rw [if_neg (by omega), List.append_assoc, List.getElem?_append_left (by omega), List.getElem?_take_of_lt h1]
  · by_cases h2 : j < a + s.size
    · rw [if_pos ⟨by omega, h2⟩, List.append_assoc, List.getElem?_append_right (by omega), ht, List.getElem?_append_left (by omega)]
    · rw [if_neg (by omega), List.getElem?_append_right (by rw [List.length_append]; omega), List.getElem?_drop]
      congr 1
      rw [List.length_append]; omega
theorem cut_get (xs : List UInt8) (n k j : Nat) : ((xs.drop n).take k)[j]? = if j < k then xs[n + j]? else none := by
  by_cases h : j < k
  · rw [if_pos h, List.getElem?_take_of_lt h, List.getElem?_drop]
  · rw [if_neg h, List.getElem?_take_eq_none (by omega)]
theorem cut_off (xs : List UInt8) (a : Nat) (s : ByteArray) (h : a + s.size ≤ xs.length) (n k : Nat) (hd : n + k ≤ a ∨ a + s.size ≤ n) : ((over xs a s).drop n).take k = (xs.drop n).take k := by
  apply List.ext_getElem?
  intro j
  rw [cut_get, cut_get]
  by_cases hj : j < k
  · rw [if_pos hj, if_pos hj, over_in xs a s h, if_neg (by omega)]
  · rw [if_neg hj, if_neg hj]
theorem cut_on (xs : List UInt8) (a : Nat) (s : ByteArray) (h : a + s.size ≤ xs.length) : ((over xs a s).drop a).take s.size = s.data.toList := by
  apply List.ext_getElem?
  intro j
  have hs : s.data.toList.length = s.size := rfl
  rw [cut_get]
  by_cases hj : j < s.size
  · rw [if_pos hj, over_in xs a s h, if_pos (by omega)]
    congr 1; omega
  · rw [if_neg hj, List.getElem?_eq_none (by omega)]
theorem deAt_off (xs : List UInt8) (a : Nat) (s : ByteArray) (h : a + s.size ≤ xs.length) (n : Nat) (hd : n + 16 ≤ a ∨ a + s.size ≤ n) : deAt (over xs a s) n = deAt xs n := by
  unfold deAt cut16
  rw [cut_off xs a s h n 16 hd]
theorem deAt_on (xs : List UInt8) (a A L I F : Nat) (h : a + 16 ≤ xs.length) (hA : A < 18446744073709551616) (hL : L < 4294967296) (hI : I ≤ 65535) (hF : F ≤ 65535) : deAt (over xs a (desB A L I F)) a = ⟨A, L, I, F⟩ := by
  have hs := desB_size A L I F
  have e := cut_on xs a (desB A L I F) (by omega)
  rw [hs] at e
  unfold deAt cut16
  rw [e]
  exact deOf_desB A L I F hA hL hI hF
theorem over_comm (xs : List UInt8) (a b : Nat) (s t : ByteArray) (ha : a + s.size ≤ xs.length) (hb : b + t.size ≤ xs.length) (hd : a + s.size ≤ b ∨ b + t.size ≤ a) : over (over xs a s) b t = over (over xs b t) a s := by
  refine List.ext_getElem? fun j => ?_
  rw [over_in (over xs a s) b t (by rw [over_length _ _ _ ha]; exact hb), over_in (over xs b t) a s (by rw [over_length _ _ _ hb]; exact ha), over_in xs a s ha, over_in xs b t hb]
  by_cases h1 : b ≤ j ∧ j < b + t.size
  · rw [if_pos h1, if_neg (by omega), if_pos h1]
  · rw [if_neg h1]
    by_cases h2 : a ≤ j ∧ j < a + s.size
    · rw [if_pos h2, if_pos h2]
    · rw [if_neg h2, if_neg h2, if_neg h1]
theorem over_join (xs : List UInt8) (a k : Nat) (s : ByteArray) (hk : k ≤ s.size) (ha : a + s.size ≤ xs.length) : over (over xs a (s.extract 0 k)) (a + k) (s.extract k s.size) = over xs a s := by
  have z1 : (s.extract 0 k).size = k := by rw [ByteArray.size_extract]; omega
  have z2 : (s.extract k s.size).size = s.size - k := by rw [ByteArray.size_extract]; omega
  have l1 : (s.extract 0 k).data.toList = s.data.toList.take k := by simp [ByteArray.data_extract]
  have l2 : (s.extract k s.size).data.toList = (s.data.toList.drop k).take (s.size - k) := by simp [ByteArray.data_extract]
  refine List.ext_getElem? fun j => ?_
  rw [over_in _ _ _ (by rw [over_length _ _ _ (by omega), z2]; omega), over_in _ _ _ (by omega), over_in _ _ _ ha, z1, z2, l1, l2]
  by_cases h1 : a + k ≤ j ∧ j < a + k + (s.size - k)
  · rw [if_pos h1, if_pos (by omega), List.getElem?_take, if_pos (by omega), List.getElem?_drop]
    congr 1; omega
  · rw [if_neg h1]
    by_cases h2 : a ≤ j ∧ j < a + k
    · rw [if_pos h2, if_pos (by omega), List.getElem?_take, if_pos (by omega)]
    · rw [if_neg h2, if_neg (by omega)]
theorem over_same (xs : List UInt8) (a : Nat) (s : ByteArray) (h : a + s.size ≤ xs.length) (j : Nat) (hj : ¬ (a ≤ j ∧ j < a + s.size)) : (over xs a s)[j]? = xs[j]? := by rw [over_in _ _ _ h, if_neg hj]
theorem stA_inj {n p j m : Nat} (hj : j < n) (hm : m < n) (h : stA n p j = stA n p m) : j = m := by
  unfold stA at h
  split at h <;> split at h <;> omega
end Go.Proofs.Ytbpgblmhacpjlaa

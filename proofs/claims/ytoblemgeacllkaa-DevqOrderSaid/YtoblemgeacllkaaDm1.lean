/-
  The mathematics of a right driver's ring: what descriptors stand in memory behind writes; the chain that is taken; no condition.
-/
import Derived.Test.YtoblemgeacllkaaDq10
import Derived.Test.YtoblemgeacllkaaDq7
namespace Go.Proofs.Ytoblemgeacllkaa

/-! descriptors there and back -/
theorem pb_list (v n : Nat) : (pb v n).data.toList = digs v n := rfl
theorem desB_list (A L I F : Nat) : (desB A L I F).data.toList = digs A 8 ++ (digs L 4 ++ (digs I 2 ++ digs F 2)) := by
  unfold desB
  simp only [ByteArray.data_append, Array.toList_append, pb_list, List.append_assoc]
theorem mid (X M Y : List UInt8) (a n : Nat) (ha : X.length = a) (hn : M.length = n) : ((X ++ (M ++ Y)).drop a).take n = M := by
  subst ha hn
  rw [List.drop_left, List.take_left]
theorem gn_at (s : ByteArray) (X Y : List UInt8) (v a n : Nat) (h : s.data.toList = X ++ (digs v n ++ Y)) (ha : X.length = a) (hv : v < 256 ^ n) : gn s a n = v := by
  unfold gn cutl
  rw [h, mid X (digs v n) Y a n ha (digs_length v n), val_digs, Nat.mod_eq_of_lt hv]
theorem parse_build (A L I F : Nat) (hA : A < 18446744073709551616) (hL : L < 4294967296) (hI : I ≤ 65535) (hF : F ≤ 65535) :
    gn (desB A L I F) 0 8 = A ∧ gn (desB A L I F) 8 4 = L ∧ gn (desB A L I F) 12 2 = I ∧ gn (desB A L I F) 14 2 = F := by
  have h := desB_list A L I F
  refine ⟨gn_at _ [] _ A 0 8 h rfl (by omega), gn_at _ (digs A 8) _ L 8 4 h (digs_length _ _) (by omega), ?_, ?_⟩
  · refine gn_at _ (digs A 8 ++ digs L 4) (digs F 2) I 12 2 (by rw [h]; simp) (by simp [digs_length]) (by omega)
  · refine gn_at _ (digs A 8 ++ digs L 4 ++ digs I 2) [] F 14 2 (by rw [h]; simp) (by simp [digs_length]) (by omega)
theorem deOf_desB (A L I F : Nat) (hA : A < 18446744073709551616) (hL : L < 4294967296) (hI : I ≤ 65535) (hF : F ≤ 65535) : deOf (desB A L I F) = ⟨A, L, I, F⟩ := by
  obtain ⟨a, b, c, d⟩ := parse_build A L I F hA hL hI hF
  unfold deOf
  rw [a, b, c, d]
/-! bytes of a row that was written over -/
theorem over_in (xs : List UInt8) (a : Nat) (s : ByteArray) (h : a + s.size ≤ xs.length) (j : Nat) : (over xs a s)[j]? = if a ≤ j ∧ j < a + s.size then s.data.toList[j - a]? else xs[j]? := by
  have hs : s.data.toList.length = s.size := rfl
  have ht : (xs.take a).length = a := by simp; omega
  unfold over
  by_cases h1 : j < a
  · rw [if_neg (by omega), List.append_assoc, List.getElem?_append_left (by omega), List.getElem?_take_of_lt h1]
  · by_cases h2 : j < a + s.size
    · rw [if_pos ⟨by omega, h2⟩, List.append_assoc, List.getElem?_append_right (by omega), ht, List.getElem?_append_left (by omega)]
    · rw [if_neg (by omega), List.getElem?_append_right (by rw [List.length_append]; omega), List.getElem?_drop]
      congr 1
      rw [List.length_append]; omega
theorem cut_get (xs : List UInt8) (n k j : Nat) : ((xs.drop n).take k)[j]? = if j < k then xs[n + j]? else none := by
  by_cases h : j < k
  · rw [if_pos h, List.getElem?_take_of_lt h, List.getElem?_drop]
  · rw [if_neg h, List.getElem?_take_eq_none (by omega)]
theorem cut_off (xs : List UInt8) (a : Nat) (s : ByteArray) (h : a + s.size ≤ xs.length) (n k : Nat) (hd : n + k ≤ a ∨ a + s.size ≤ n) : ((over xs a s).drop n).take k = (xs.drop n).take k := by
  apply List.ext_getElem?
  intro j
  rw [cut_get, cut_get]
  by_cases hj : j < k
  · rw [if_pos hj, if_pos hj, over_in xs a s h, if_neg (by omega)]
  · rw [if_neg hj, if_neg hj]
theorem cut_on (xs : List UInt8) (a : Nat) (s : ByteArray) (h : a + s.size ≤ xs.length) : ((over xs a s).drop a).take s.size = s.data.toList := by
  apply List.ext_getElem?
  intro j
  have hs : s.data.toList.length = s.size := rfl
  rw [cut_get]
  by_cases hj : j < s.size
  · rw [if_pos hj, over_in xs a s h, if_pos (by omega)]
    congr 1; omega
  · rw [if_neg hj, List.getElem?_eq_none (by omega)]
theorem deAt_off (xs : List UInt8) (a : Nat) (s : ByteArray) (h : a + s.size ≤ xs.length) (n : Nat) (hd : n + 16 ≤ a ∨ a + s.size ≤ n) : deAt (over xs a s) n = deAt xs n := by
  unfold deAt cut16
  rw [cut_off xs a s h n 16 hd]
theorem deAt_on (xs : List UInt8) (a A L I F : Nat) (h : a + 16 ≤ xs.length) (hA : A < 18446744073709551616) (hL : L < 4294967296) (hI : I ≤ 65535) (hF : F ≤ 65535) : deAt (over xs a (desB A L I F)) a = ⟨A, L, I, F⟩ := by
  have hs := desB_size A L I F
  have e := cut_on xs a (desB A L I F) (by omega)
  rw [hs] at e
  unfold deAt cut16
  rw [e]
  exact deOf_desB A L I F hA hL hI hF
/-! what Done writes -/
theorem used_off (xs : List UInt8) (q : Qs) (id wr : Nat) (hq : q.Ok xs.length) (n : Nat) (hd : n + 16 ≤ q.ring + 16 * q.ba ∨ q.ring + 16 * q.ba + 16 ≤ n) : deAt (usedX xs q id wr) n = deAt xs n := by
  have := hq.r; have := hq.ba
  have e1 : ((desB 0 wr id (doneF q wr)).extract 8 14).size = 6 := by rw [ByteArray.size_extract, desB_size]; rfl
  have e2 : ((desB 0 wr id (doneF q wr)).extract 14 16).size = 2 := by rw [ByteArray.size_extract, desB_size]; rfl
  have l1 : (over xs (q.ring + 16 * q.ba + 8) ((desB 0 wr id (doneF q wr)).extract 8 14)).length = xs.length := over_length _ _ _ (by omega)
  unfold usedX
  rw [deAt_off _ _ _ (by omega) _ (by omega), deAt_off _ _ _ (by omega) _ (by omega)]
theorem used_flags (xs : List UInt8) (q : Qs) (id wr : Nat) (hq : q.Ok xs.length) : ((usedX xs q id wr).drop (q.ring + 16 * q.ba + 14)).take 2 = digs (doneF q wr) 2 := by
  have := hq.r; have := hq.ba
  have e1 : ((desB 0 wr id (doneF q wr)).extract 8 14).size = 6 := by rw [ByteArray.size_extract, desB_size]; rfl
  have e2 : ((desB 0 wr id (doneF q wr)).extract 14 16).size = 2 := by rw [ByteArray.size_extract, desB_size]; rfl
  have l1 : (over xs (q.ring + 16 * q.ba + 8) ((desB 0 wr id (doneF q wr)).extract 8 14)).length = xs.length := over_length _ _ _ (by omega)
  have h := cut_on (over xs (q.ring + 16 * q.ba + 8) ((desB 0 wr id (doneF q wr)).extract 8 14)) (q.ring + 16 * q.ba + 14) ((desB 0 wr id (doneF q wr)).extract 14 16) (by omega)
  rw [e2] at h
  unfold usedX
  rw [h]
  have hl : ((desB 0 wr id (doneF q wr)).extract 14 16).data.toList = ((desB 0 wr id (doneF q wr)).data.toList.drop 14).take 2 := by
    rw [ByteArray.data_extract, Array.toList_extract]
  rw [hl, desB_list]
  have e3 : digs 0 8 ++ (digs wr 4 ++ (digs id 2 ++ digs (doneF q wr) 2)) = (digs 0 8 ++ digs wr 4 ++ digs id 2) ++ (digs (doneF q wr) 2 ++ []) := by simp
  rw [e3, mid _ _ _ 14 2 (by simp [digs_length]) (digs_length _ _)]
theorem used_val (xs : List UInt8) (q : Qs) (id wr : Nat) (hq : q.Ok xs.length) : val (((usedX xs q id wr).drop (q.ring + 16 * q.ba + 14)).take 2) = doneF q wr := by
  rw [used_flags xs q id wr hq, val_digs, Nat.mod_eq_of_lt]
  have := doneF_lt q wr
  omega
theorem used_on (xs : List UInt8) (q : Qs) (id wr : Nat) (hq : q.Ok xs.length) : (deAt (usedX xs q id wr) (q.ring + 16 * q.ba)).f = doneF q wr := by
  have := hq.r; have := hq.ba
  have hl := usedX_length xs q id wr hq
  show gn (cut16 (usedX xs q id wr) (q.ring + 16 * q.ba)) 14 2 = doneF q wr
  rw [← used_val xs q id wr hq]
  unfold gn cutl cut16
  congr 1
  apply List.ext_getElem?
  intro j
  rw [cut_get _ 14 2 j, cut_get (usedX xs q id wr) (q.ring + 16 * q.ba + 14) 2 j]
  by_cases hj : j < 2
  · rw [if_pos hj, if_pos hj]
    show (((usedX xs q id wr).drop (q.ring + 16 * q.ba)).take 16)[14 + j]? = _
    rw [cut_get, if_pos (by omega)]
    congr 1; omega
  · rw [if_neg hj, if_neg hj]
end Go.Proofs.Ytoblemgeacllkaa

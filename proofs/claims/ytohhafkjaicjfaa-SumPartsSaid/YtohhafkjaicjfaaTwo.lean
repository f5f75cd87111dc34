/-
  Two bytes of a word as a string, what they sum to, and the parts of a string as lists of bytes; no condition beyond the word's own bounds.
-/
import Derived.Test.YtohhafkjaicjfaaFixed
import Derived.Laws.BytesArg
namespace Go.Proofs.Ytohhafkjaicjfaa
open Go.RowKit

theorem two_bytes (W : World) (a b : Int) : (convert 32 9 (.slice (some ⟨W.heap.size, 0, none⟩) 2 2)).run Try.prog (W.alloc (.cells #[.int .u8 a, .int .u8 b] 5)) = .ok (.string (strOfNums [a, b])) (W.alloc (.cells #[.int .u8 a, .int .u8 b] 5)) := by
  refine run_convert_bytes_arg _ 32 5 Try.underlying32 Try.underlying5 W.heap.size 0 2 2 [a, b] rfl ?_ 9 Try.underlying9
  intro i hi
  match i, hi with
  | 0, _ => simp
  | 1, _ => simp
theorem two_bytes_drew (W : World) (a b : Int) : (convert 32 9 (.slice (some ⟨W.heap.size, 0, none⟩) 2 2)).run Try.prog (W.alloc (.cells #[.int .u8 a, .int .u8 b] 5)).drew = .ok (.string (strOfNums [a, b])) (W.alloc (.cells #[.int .u8 a, .int .u8 b] 5)).drew := by
  refine run_convert_bytes_arg _ 32 5 Try.underlying32 Try.underlying5 W.heap.size 0 2 2 [a, b] rfl ?_ 9 Try.underlying9
  intro i hi
  match i, hi with
  | 0, _ => show (W.alloc _).cell? _ = _; simp
  | 1, _ => show (W.alloc _).cell? _ = _; simp
/-- the two bytes of a word -/
def word2 (n : Int) : ByteArray := strOfNums [n / 256, n % 256]
theorem word2_size (n : Int) : (word2 n).size = 2 := rfl
theorem word2_wt (n : Int) (h1 : 0 ≤ n) (h2 : n ≤ 65535) : wt true (word2 n).data.toList = n := by
  have e : (word2 n).data.toList = [UInt8.ofNat (n / 256).toNat, UInt8.ofNat (n % 256).toNat] := by simp [word2, strOfNums]
  have e1 : ((n / 256).toNat % 256 : Nat) = (n / 256).toNat := by omega
  have e2 : ((n % 256).toNat % 256 : Nat) = (n % 256).toNat := by omega
  rw [e]
  simp only [wt, UInt8.toNat_ofNat']
  simp
  omega
theorem cat_list (s t : ByteArray) : (s ++ t).data.toList = s.data.toList ++ t.data.toList := by simp
theorem cat_size (s t : ByteArray) : (s ++ t).size = s.size + t.size := by simp
theorem cut_list (s : ByteArray) (k : Nat) : (s.extract 0 k).data.toList = s.data.toList.take k := by
  rw [ByteArray.data_extract, Array.toList_extract, List.extract_eq_take_drop]; simp
theorem rest_list (s : ByteArray) (k : Nat) : (s.extract k s.size).data.toList = s.data.toList.drop k := by
  rw [ByteArray.data_extract, Array.toList_extract, List.extract_eq_take_drop, List.take_of_length_le]
  have : s.data.toList.length = s.size := rfl
  simp only [List.length_drop]; omega
theorem cut_size (s : ByteArray) (k : Nat) (h : k ≤ s.size) : (s.extract 0 k).size = k := by simp; omega
theorem wt_cat (s t : ByteArray) (h : s.size % 2 = 0) : wt true (s ++ t).data.toList = wt true s.data.toList + wt true t.data.toList := by
  have hl : s.data.toList.length = s.size := rfl
  rw [cat_list, wt_append, hl, if_pos h]
theorem bl {w w1 w2 : World} (h : Below w.heap.size w w1) (g : Below w1.heap.size w1 w2) : Below w.heap.size w w2 := h.trans (g.mono h.size)
theorem bla {w w1 : World} (h : Below w.heap.size w w1) (o : Obj) : Below w.heap.size w (w1.alloc o) := h.alloc h.size o
end Go.Proofs.Ytohhafkjaicjfaa

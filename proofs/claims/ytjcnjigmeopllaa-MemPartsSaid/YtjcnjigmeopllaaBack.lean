/-
  What is written is read, and all other bytes are what they were: on plain bytes, and as the answers of gmem's calls; no condition.
-/
import Derived.Test.YtjcnjigmeopllaaWnum
namespace Go.Proofs.Ytjcnjigmeopllaa
open Go.RowKit

theorem of_list {x y : ByteArray} (h : x.data.toList = y.data.toList) : x = y := by
  apply ByteArray.ext
  exact Array.toList_inj.1 h
theorem ext_list (s : ByteArray) (a b : Nat) : (s.extract a b).data.toList = (s.data.toList.drop a).take (b - a) := by
  rw [ByteArray.data_extract, Array.toList_extract, List.extract_eq_take_drop]
/-- bytes as a string -/
def txt (l : List UInt8) : ByteArray := ⟨l.toArray⟩
theorem txt_size (l : List UInt8) : (txt l).size = l.length := by
  show l.toArray.size = l.length
  simp
theorem txt_list (l : List UInt8) : (txt l).data.toList = l := rfl
theorem over_head (X : List UInt8) (a : Nat) (S : ByteArray) (h : a + S.size ≤ X.length) : (txt (over X a S)).extract 0 a = (txt X).extract 0 a := by
  apply of_list
  rw [ext_list, ext_list, txt_list, txt_list, List.drop_zero, List.drop_zero, Nat.sub_zero]
  have hl : (X.take a).length = a := by simp; omega
  unfold over
  rw [List.append_assoc, List.take_append_of_le_length (by omega), List.take_take, Nat.min_self]
theorem over_tail (X : List UInt8) (a : Nat) (S : ByteArray) (N : Nat) (hN : X.length = N) (h : a + S.size ≤ N) : (txt (over X a S)).extract (a + S.size) N = (txt X).extract (a + S.size) N := by
  apply of_list
  rw [ext_list, ext_list, txt_list, txt_list]
  have hd : (over X a S).drop (a + S.size) = X.drop (a + S.size) := by
    rw [← List.drop_drop, over_drop X a S (by omega), List.drop_append]
    have e : S.data.toList.length = S.size := rfl
    rw [e, Nat.sub_self, List.drop_zero, List.drop_eq_nil_of_le (by omega), List.nil_append]
  rw [hd]
theorem over_mid (X : List UInt8) (a : Nat) (S : ByteArray) (h : a + S.size ≤ X.length) : (txt (over X a S)).extract a (a + S.size) = S := by
  apply of_list
  rw [ext_list, txt_list, show a + S.size - a = S.size by omega]
  exact over_read X a S h

/-- the law's memory, filled -/
theorem back_calls (W : World) (N : Nat) (I : ByteArray) (h1 : 64 ≤ N) (h2 : N ≤ 2000) (hI : I.size ≤ N) : ∃ (X0 X : List UInt8), X.length = N ∧
    Hid (Calls Try.prog 9 #[.int .i64 N] W fun e w' => ∃ g, e = .returned (.tuple #[.pointer (some ⟨g, 0, none⟩), .int .i64 0]) ∧ M W g X0 0 [] w') ∧
    Hid (∀ g w1, M W g X0 0 [] w1 → Calls Try.prog 14 #[.pointer (some ⟨g, 0, none⟩), .int .i64 0, .string I] w1 fun e w' => e = .returned (.int .i64 0) ∧ ∃ L : List Acc, L.length ≤ 1 ∧ M W g X 0 L w') ∧
    Hid (∀ g w1 (L : List Acc), L.length ≤ 2 → ∀ X, M W g X 0 L w1 → Calls Try.prog 15 #[.pointer (some ⟨g, 0, none⟩)] w1 (Tells W g X 0 L w1)) ∧
    Hid (∀ g w1 (L : List Acc) X, M W g X 0 L w1 → Calls Try.prog 13 #[.pointer (some ⟨g, 0, none⟩)] w1 fun e w' => e = .returned (.string (txt X)) ∧ w1 = w') := by
  refine ⟨List.replicate N 0, over (List.replicate N 0) 0 I, ?_, new_ok N W h1 (by omega), fun g w1 h => ?_, fun g w1 L hL X h => one_log h (by omega), fun g w1 L X h => one_image h⟩
  · rw [over_length _ _ _ (by rw [List.length_replicate]; omega), List.length_replicate]
  · refine (one_write h 0 I (by simp) (by rw [List.length_replicate]; omega)).mono fun e w' ⟨he, hM⟩ => ⟨he, _, ?_, hM⟩
    exact note_length [] _
/-- the law's own copy of its argument -/
theorem box_cells {w w1 : World} {k0 k1 k2 k3 k4 : Value} (h : Below (w.alloc (.cells #[k0, k1, k2, k3, k4] 36)).heap.size (w.alloc (.cells #[k0, k1, k2, k3, k4] 36)) w1) :
    w1.cell? ⟨w.heap.size, 1, none⟩ = some k1 ∧ w1.cell? ⟨w.heap.size, 4, none⟩ = some k4 :=
  ⟨(h.cell (p := ⟨w.heap.size, 1, none⟩) (by simp)).trans (by simp), (h.cell (p := ⟨w.heap.size, 4, none⟩) (by simp)).trans (by simp)⟩
theorem box_under {w w1 : World} {o : Obj} (h : Below (w.alloc o).heap.size (w.alloc o) w1) : Below w.heap.size w w1 :=
  ((Below.refl _ _).alloc (Nat.le_refl _) _).trans (h.mono (by simp))
theorem note_zero (lg : List Acc) (x : Acc) (h : x.n = 0) : note lg x = lg := if_pos h
theorem note_more (lg : List Acc) (x : Acc) (h : x.n ≠ 0) : note lg x = lg ++ [x] := if_neg h
/-- the law's write and read -/
theorem written_calls (W : World) (N : Nat) (X : List UInt8) (a : Nat) (S : ByteArray) (hN : X.length = N) (h : a + S.size ≤ N) (L : List Acc)
    (hL : (S.size = 0 ∧ L = []) ∨ (S.size ≠ 0 ∧ L = [⟨0, a, S.size, true⟩, ⟨0, a, S.size, false⟩])) : ∃ (Y : List UInt8) (L1 : List Acc), (txt Y).size = N ∧
    (txt Y).extract 0 a = (txt X).extract 0 a ∧ (txt Y).extract (a + S.size) N = (txt X).extract (a + S.size) N ∧ (txt Y).extract a (a + S.size) = S ∧
    Hid (∀ g w1, M W g X 0 [] w1 → Calls Try.prog 14 #[.pointer (some ⟨g, 0, none⟩), .int .i64 a, .string S] w1 fun e w' => e = .returned (.int .i64 0) ∧ M W g Y 0 L1 w') ∧
    Hid (∀ g w1, M W g Y 0 L1 w1 → Calls Try.prog 16 #[.pointer (some ⟨g, 0, none⟩), .int .i64 a, .int .i64 S.size] w1 fun e w' => e = .returned (.tuple #[.string S, .int .i64 0]) ∧ M W g Y 0 L w') := by
  have hY : (over X a S).length = N := by rw [over_length X a S (by omega)]; exact hN
  refine ⟨over X a S, note [] ⟨0, a, S.size, true⟩, by rw [txt_size]; exact hY, over_head X a S (by omega), over_tail X a S N hN h, over_mid X a S (by omega), fun g w1 hM => one_write hM a S (by simp) (by omega), fun g w1 hM => ?_⟩
  have hr := one_read hM a S.size (by have := note_length [] ⟨0, a, S.size, true⟩; simp at this; omega) (by omega)
  rw [over_read X a S (by omega)] at hr
  have e : note (note [] ⟨0, a, S.size, true⟩) ⟨0, a, S.size, false⟩ = L := by
    rcases hL with ⟨h0, rfl⟩ | ⟨h0, rfl⟩
    · rw [note_zero _ _ (by simpa using h0), note_zero _ _ (by simpa using h0)]
    · rw [note_more _ _ (by simpa using h0), note_more _ _ (by simpa using h0)]; rfl
  rw [e] at hr
  exact hr
end Go.Proofs.Ytjcnjigmeopllaa

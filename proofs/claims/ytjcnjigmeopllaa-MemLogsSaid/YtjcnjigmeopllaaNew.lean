/-
  What gmem's New, Size, May, Image, As and isWord answer, and what they leave: for every memory and every number.
-/
import Derived.Test.YtjcnjigmeopllaaMem
namespace Go.Proofs.Ytjcnjigmeopllaa
open Go.RowKit

theorem zeros_map (n : Nat) : ((List.replicate n (0 : UInt8)).map byteV) = (madeCells (Value.cells (.int .u8 0)) (n * 1)).toList := by
  rw [Nat.mul_one, List.map_replicate]; exact (toList_madeCells_one _ n).symm

/-- a row without spare, known whole -/
theorem blk_of_own {w : World} {B g n e size : Nat} {xs : List Value} (h : w.ownsRow B e size (.slice (some ⟨g, 0, none⟩) n n) n xs) : Blk w g e xs.toArray := by
  obtain ⟨hl, h2⟩ := h
  rcases h2 with ⟨h', _⟩ | ⟨g', cap', cur, h', hB, hh, h3, h4, h5, h6⟩
  · simp at h'
  · simp only [Value.slice.injEq, Option.some.injEq, Addr.mk.injEq, and_true, true_and] at h'
    obtain ⟨rfl, rfl⟩ := h'
    have e : cur = xs.toArray := by
      rw [List.take_of_length_le (by rw [Array.length_toList, h5]; exact Nat.le_refl _)] at h6
      rw [← h6]
    subst e
    exact hh

set_option maxHeartbeats 400000 in
theorem new_ok (n : Nat) (w : World) (h1 : 64 ≤ n) (h2 : n ≤ 1048576) :
    Calls Try.prog 9 #[.int .i64 n] w fun e w' => ∃ g, e = .returned (.tuple #[.pointer (some ⟨g, 0, none⟩), .int .i64 0]) ∧ M w g (List.replicate n 0) 0 [] w' := by
  obtain ⟨i0, hi, hz0, hz1, hz2⟩ := info_parts Try.info5
  have HI := Lib.hid hi
  have HZ0 := Lib.hid hz0
  have HZ1 := Lib.hid hz1
  have HZ2 := Lib.hid hz2
  clear hi hz0 hz1 hz2
  go_enter Try.func9, Try.ntmps9
  go_wp2_with (at_make; refine wpList_make_full _ rfl _ _ 32 rfl w.heap.size 5 i0 (.int .u8 0) 1 Try.underlying32 HI.out HZ0.out HZ1.out .i64 .i64 n n n rfl rfl rfl rfl (by rw [HZ2.out]; omega) (by unfold maxLen; omega) (Nat.le_refl _) ?_; intro w1 hrow hgrow)
  go_ret2
  rw [← zeros_map] at hrow
  have hblk := blk_of_own hrow
  have hb : Below w.heap.size w w1 := (Below.refl _ _).grown hgrow (Nat.le_refl _) (by simp)
  have hz := hb.size
  refine ⟨w1.heap.size, rfl, w.heap.size, .slice none 0 0, ⟨hz, Nat.le_refl _, ?_, hblk.alloc _, World.ownsRow_nil _ _ _ _, by simpa using h2, by simp; omega⟩, hb.alloc hz _⟩
  rw [List.length_replicate]
  exact Blk.new _ _ _
theorem new_bad (n : Int) (w : World) (h : n < 64 ∨ 1048576 < n) :
    Calls Try.prog 9 #[.int .i64 n] w fun e w' => e = .returned (.tuple #[.pointer none, .int .i64 40]) ∧ w = w' := by
  rcases h with h | h
  · go_enter Try.func9, Try.ntmps9
    go_wp2
    go_ret2
    exact ⟨rfl, rfl⟩
  · have h' : ¬ n < 64 := by omega
    go_enter Try.func9, Try.ntmps9
    go_wp2
    go_ret2
    exact ⟨rfl, rfl⟩

section
variable {B g gb : Nat} {lv : Value} {xs : List UInt8} {ag : Int} {lg : List Acc} {w : World}
theorem size_m (h : Mem B g gb lv xs ag lg w) :
    Calls Try.prog 12 #[.pointer (some ⟨g, 0, none⟩)] w fun e w' => e = .returned (.int .i64 xs.length) ∧ w = w' := by
  have hc := h.c0
  clear h
  go_enter Try.func12, Try.ntmps12
  go_wp2
  go_ret
  exact ⟨rfl, rfl⟩
theorem may_yes (h : Mem B g gb lv xs ag lg w) (a n : Int) (h0 : 0 ≤ n) (h1 : 0 ≤ a) (h2 : a + n ≤ xs.length) :
    Calls Try.prog 21 #[.pointer (some ⟨g, 0, none⟩), .int .i64 a, .int .i64 n] w fun e w' => e = .returned (.bool true) ∧ w = w' := by
  have hc := h.c0
  have hl := h.len
  clear h
  go_enter Try.func21, Try.ntmps21
  go_wp2
  go_ret
  exact ⟨ret_bool (decide_eq_true (by omega)), rfl⟩
theorem may_no (h : Mem B g gb lv xs ag lg w) (a n : Int) (hn : n < 9223372036854775808) (hno : ¬ (0 ≤ n ∧ 0 ≤ a ∧ a + n ≤ xs.length)) :
    Calls Try.prog 21 #[.pointer (some ⟨g, 0, none⟩), .int .i64 a, .int .i64 n] w fun e w' => e = .returned (.bool false) ∧ w = w' := by
  have hc := h.c0
  have hl := h.len
  clear h
  by_cases h0 : 0 ≤ n
  · by_cases h1 : 0 ≤ a
    · have h2 : (xs.length : Int) - n < a := by omega
      clear hno
      go_enter Try.func21, Try.ntmps21
      go_wp2
      go_ret
      exact ⟨ret_bool (decide_eq_false (by omega)), rfl⟩
    · clear hno
      go_enter Try.func21, Try.ntmps21
      go_wp2
      go_ret
      exact ⟨rfl, rfl⟩
  · clear hno
    go_enter Try.func21, Try.ntmps21
    go_wp2
    go_ret
    exact ⟨rfl, rfl⟩
theorem Mem.text (h : Mem B g gb lv xs ag lg w) (a n : Nat) (hn : a + n ≤ xs.length) (cap : Nat) :
    (convert 32 9 (.slice (some ⟨gb, a, none⟩) n cap)).run Try.prog w = .ok (.string ⟨((xs.drop a).take n).toArray⟩) w := by
  have e : n = ((xs.drop a).take n).length := by simp; omega
  conv => lhs; rw [e]
  refine run_convert_bytes_back w 32 9 5 ⟨gb, a, none⟩ cap _ Try.underlying32 Try.underlying5 Try.underlying9 ?_
  intro j hj
  have e : (⟨gb, a, none⟩ : Addr).add j = ⟨gb, a + j, none⟩ := by unfold Addr.add; split <;> simp [*]
  have hj' : a + j < xs.length := by simp at hj; omega
  rw [e, h.byte (a + j) hj']
  simp [byteV]
theorem image_m (h : Mem B g gb lv xs ag lg w) :
    Calls Try.prog 13 #[.pointer (some ⟨g, 0, none⟩)] w fun e w' => e = .returned (.string ⟨xs.toArray⟩) ∧ w = w' := by
  have hc := h.c0
  have ht := h.text 0 xs.length (by omega) xs.length
  rw [List.drop_zero, List.take_length] at ht
  clear h
  go_enter Try.func13, Try.ntmps13
  go_wp2
  go_ret
  exact ⟨rfl, rfl⟩
theorem as_m (h : Mem B g gb lv xs ag lg w) (n : Int) :
    Calls Try.prog 20 #[.pointer (some ⟨g, 0, none⟩), .int .i64 n] w fun e w' => e = .returned (.tuple #[]) ∧ Mem B g gb lv xs n lg w' ∧ Touch g gb lv w w' := by
  have hc := h.c1
  have hf := h.fz 1
  go_enter Try.func20, Try.ntmps20
  go_wp2
  go_end0
  refine ⟨rfl, ?_, ?_⟩
  · have hb := h.blk.put 1 (.int .i64 n)
    have o : ∀ k, k ≠ g → (w.setCell ⟨g, 1, none⟩ (.int .i64 n)).heap[k]? = w.heap[k]? := fun k hk => Below.heap_setCell _ _ _ _ hk
    exact ⟨h.hB, h.hBb, hb, h.row.same (o gb h.ne.symm), own_same h.log (fun k hk => o k (fun e => h.lne (e ▸ hk))), h.len, h.pos⟩
  · exact ⟨rfl, rfl, rfl, by simp [World.setCell], fun k _ hk _ _ => Below.heap_setCell _ _ _ _ hk⟩
end
theorem word_yes (n : Int) (w : World) (h : n = 1 ∨ n = 2 ∨ n = 4 ∨ n = 8) :
    Calls Try.prog 25 #[.int .i64 n] w fun e w' => e = .returned (.bool true) ∧ w = w' := by
  rcases h with rfl | rfl | rfl | rfl
  all_goals
    go_enter Try.func25, Try.ntmps25
    go_wp2
    go_ret
    exact ⟨rfl, rfl⟩
theorem word_no (n : Int) (w : World) (h : ¬ (n = 1 ∨ n = 2 ∨ n = 4 ∨ n = 8)) :
    Calls Try.prog 25 #[.int .i64 n] w fun e w' => e = .returned (.bool false) ∧ w = w' := by
  have h1 : (n == 1) = false := by simp; omega
  have h2 : (n == 2) = false := by simp; omega
  have h3 : (n == 4) = false := by simp; omega
  have h4 : (n == 8) = false := by simp; omega
  clear h
  go_enter Try.func25, Try.ntmps25
  go_wp2
  go_ret
  exact ⟨rfl, rfl⟩
end Go.Proofs.Ytjcnjigmeopllaa

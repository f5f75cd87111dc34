/-
  What gmem's Read and Write answer, and what they leave: for every memory whose log has room, all numbers and all bytes.
-/
import Derived.Test.YtjcnjigmeopllaaRec
import Derived.Lib.BufferWrite
namespace Go.Proofs.Ytjcnjigmeopllaa
open Go.RowKit

section
variable {B g gb : Nat} {lv : Value} {xs : List UInt8} {ag : Int} {lg : List Acc} {w : World}
theorem Noted.of {w1 : World} {lg' : List Acc} {lv1 : Value} (hM : Mem B g gb lv1 xs ag lg' w1) (hT : Touch g gb lv w w1) (hL : ∀ k, lv1.ownBlock = some k → lv.ownBlock = some k ∨ w.heap.size ≤ k) : Noted B g gb lv xs ag lg' w w1 := ⟨lv1, hM, hT, hL⟩
theorem nothing_text (a : Addr) (cap : Nat) (w : World) : (convert 32 9 (.slice (some a) 0 cap)).run Try.prog w = .ok (.string ⟨#[]⟩) w :=
  run_convert_bytes_back w 32 9 5 a cap [] Try.underlying32 Try.underlying5 Try.underlying9 (fun j hj => by simp at hj)
set_option maxHeartbeats 1000000 in
theorem read_ok (h : Mem B g gb lv xs ag lg w) (a n : Nat) (hl : lg.length < 4096) (hn : a + n ≤ xs.length) :
    Calls Try.prog 16 #[.pointer (some ⟨g, 0, none⟩), .int .i64 a, .int .i64 n] w fun e w' =>
      e = .returned (.tuple #[.string ⟨((xs.drop a).take n).toArray⟩, .int .i64 0]) ∧ Noted B g gb lv xs ag (note lg ⟨ag, a, n, false⟩) w w' := by
  have HM := Lib.hid h
  have hlen := h.len
  clear h
  by_cases ha : a < xs.length
  · go_enter Try.func16, Try.ntmps16
    go_wp2_with (first
      | (go_at_call 21; ((with_reducible refine (may_yes HM.out _ _ (by omega) (by omega) (by omega)).mono ?_); rintro e w' ⟨rfl, rfl⟩))
      | (go_at_call 23; ((with_reducible refine (record_m HM.out _ _ _ hl).mono ?_); rintro e w1 ⟨rfl, hN⟩; obtain ⟨lv1, hM1, hT, hL⟩ := hN; have hc0 := hM1.c0; have htx := hM1.text a n hn (xs.length - a); have HM1 := Lib.hid hM1; have HL := Lib.hid hL; clear hM1 hL)))
    go_ret2
    exact ⟨rfl, Noted.of HM1.out hT HL.out⟩
  · obtain rfl : a = xs.length := by omega
    obtain rfl : n = 0 := by omega
    clear ha hn
    have htx := nothing_text ⟨gb, 0, none⟩ 0
    rw [List.take_zero]
    go_enter Try.func16, Try.ntmps16
    go_wp2_with (first
      | (go_at_call 21; ((with_reducible refine (may_yes HM.out _ _ (by omega) (by omega) (by simp)).mono ?_); rintro e w' ⟨rfl, rfl⟩))
      | (go_at_call 23; ((with_reducible refine (record_m HM.out _ _ _ hl).mono ?_); rintro e w1 ⟨rfl, hN⟩; obtain ⟨lv1, hM1, hT, hL⟩ := hN; have hc0 := hM1.c0; have HM1 := Lib.hid hM1; have HL := Lib.hid hL; clear hM1 hL)))
    go_ret2
    exact ⟨rfl, Noted.of HM1.out hT HL.out⟩
theorem read_neg (a n : Int) (hn : n < 0) :
    Calls Try.prog 16 #[.pointer (some ⟨g, 0, none⟩), .int .i64 a, .int .i64 n] w fun e w' => e = .returned (.tuple #[.string ⟨#[]⟩, .int .i64 1]) ∧ w = w' := by
  go_enter Try.func16, Try.ntmps16
  go_wp2
  go_ret2
  exact ⟨rfl, rfl⟩
theorem read_at (h : Mem B g gb lv xs ag lg w) (a n : Int) (hn : 0 ≤ n) (hb : n < 9223372036854775808) (hno : ¬ (0 ≤ n ∧ 0 ≤ a ∧ a + n ≤ xs.length)) :
    Calls Try.prog 16 #[.pointer (some ⟨g, 0, none⟩), .int .i64 a, .int .i64 n] w fun e w' => e = .returned (.tuple #[.string ⟨#[]⟩, .int .i64 41]) ∧ w = w' := by
  have HM := Lib.hid h
  have HN := Lib.hid hno
  clear h hno
  go_enter Try.func16, Try.ntmps16
  go_wp2_with (go_at_call 21; ((with_reducible refine (may_no HM.out _ _ hb HN.out).mono ?_); rintro e w' ⟨rfl, rfl⟩))
  go_ret2
  exact ⟨rfl, rfl⟩

/-! Write -/
/-- bytes with others laid over them -/
def over (xs : List UInt8) (a : Nat) (s : ByteArray) : List UInt8 := xs.take a ++ s.data.toList ++ xs.drop (a + s.size)
theorem over_length (xs : List UInt8) (a : Nat) (s : ByteArray) (h : a + s.size ≤ xs.length) : (over xs a s).length = xs.length := by
  have : s.data.toList.length = s.size := rfl
  simp only [over, List.length_append, List.length_take, List.length_drop, this]
  omega
theorem over_cells (xs : List UInt8) (a : Nat) (s : ByteArray) :
    (((xs.map byteV).toArray.toList.take a ++ Lib.byteCells s.data.toList ++ (xs.map byteV).toArray.toList.drop (a + s.size)).toArray) = ((over xs a s).map byteV).toArray := by
  simp only [over, List.map_append, List.map_take, List.map_drop]
  rfl
/-- what a write leaves -/
def Wrote (B g gb : Nat) (lv : Value) (xs : List UInt8) (ag : Int) (lg : List Acc) (w w' : World) : Prop := Noted B g gb lv xs ag lg w w'
theorem wrote_mk {w1 : World} {lg' : List Acc} {lv1 : Value} (hM : Mem B g gb lv1 xs ag lg' w1) (hT : Touch g gb lv w w1) (hL : ∀ k, lv1.ownBlock = some k → lv.ownBlock = some k ∨ w.heap.size ≤ k)
    (a : Nat) (s : ByteArray) (h : a + s.size ≤ xs.length) : Wrote B g gb lv (over xs a s) ag lg' w (w1.setRow gb ((xs.map byteV).toArray.toList.take a ++ Lib.byteCells s.data.toList ++ (xs.map byteV).toArray.toList.drop (a + s.size)).toArray) := by
  have o : ∀ (cs : Array Value) (k : Nat), k ≠ gb → (w1.setRow gb cs).heap[k]? = w1.heap[k]? := fun cs k hk => setRow_other w1 gb k cs hk
  have hl := over_length xs a s h
  rw [over_cells]
  refine ⟨lv1, ⟨hM.hB, hM.hBb, ?_, setRow_heap w1 gb _ _ 5 _ hM.row, own_same hM.log (fun k hk => o _ k (fun e => hM.lneb (e ▸ hk))), by rw [hl]; exact hM.len, by rw [hl]; exact hM.pos⟩, ?_, hL⟩
  · rw [hl]; exact hM.blk.same (o _ g hM.ne)
  · exact ⟨hT.os, hT.tape, hT.output, by simpa [World.setRow] using hT.size, fun k hk a' b c => (o _ k b).trans (hT.block k hk a' b c)⟩
theorem Try.size5 : (Try.prog.info? 5).map (·.size) = some 1 := by kernel_rfl
/-- the copy of a write -/
theorem write_copy {w1 : World} {lg' : List Acc} {lv1 : Value} (hM : Mem B g gb lv1 xs ag lg' w1) (hT : Touch g gb lv w w1) (hL : ∀ k, lv1.ownBlock = some k → lv.ownBlock = some k ∨ w.heap.size ≤ k)
    (a : Nat) (s : ByteArray) (h : a + s.size ≤ xs.length) : ∃ w2, (Builtin.copy_ #[32, 9] 3 #[.slice (some ⟨gb, a, none⟩) (xs.length - a) (xs.length - a), .string s]).run Try.prog w1 = .ok (.int .i64 s.size) w2 ∧
      Hid (Wrote B g gb lv (over xs a s) ag lg' w w2) :=
  ⟨_, Lib.run_copy_row_string (P := Try.prog) w1 32 9 3 5 gb a _ _ s _ 5 Try.underlying32 Try.size5 hM.row (by omega) (by simpa using h), wrote_mk hM hT hL a s h⟩
theorem write_none {w1 : World} {lg' : List Acc} {lv1 : Value} (hM : Mem B g gb lv1 xs ag lg' w1) (hT : Touch g gb lv w w1) (hL : ∀ k, lv1.ownBlock = some k → lv.ownBlock = some k ∨ w.heap.size ≤ k) :
    (Builtin.copy_ #[32, 9] 3 #[.slice (some ⟨gb, 0, none⟩) 0 0, .string ⟨#[]⟩]).run Try.prog w1 = .ok (.int .i64 0) w1 ∧
      Hid (Wrote B g gb lv (over xs xs.length ⟨#[]⟩) ag lg' w w1) := by
  refine ⟨Lib.run_copy_empty_string (P := Try.prog) w1 32 9 3 5 _ _ _ ⟨#[]⟩ Try.underlying32 (by rw [Try.size5]; rfl) rfl, ?_⟩
  have e : over xs xs.length ⟨#[]⟩ = xs := by
    show xs.take xs.length ++ [] ++ xs.drop (xs.length + 0) = xs
    simp
  rw [e]
  exact ⟨lv1, hM, hT, hL⟩
set_option maxHeartbeats 1000000 in
theorem write_ok (h : Mem B g gb lv xs ag lg w) (a : Nat) (s : ByteArray) (hl : lg.length < 4096) (hn : a + s.size ≤ xs.length) :
    Calls Try.prog 14 #[.pointer (some ⟨g, 0, none⟩), .int .i64 a, .string s] w fun e w' =>
      e = .returned (.int .i64 0) ∧ Wrote B g gb lv (over xs a s) ag (note lg ⟨ag, a, s.size, true⟩) w w' := by
  have HM := Lib.hid h
  have hlen := h.len
  clear h
  by_cases ha : a < xs.length
  · go_enter Try.func14, Try.ntmps14
    go_wp2_with (first
      | (go_at_call 21; ((with_reducible refine (may_yes HM.out _ _ (by omega) (by omega) (by omega)).mono ?_); rintro e w' ⟨rfl, rfl⟩))
      | (go_at_call 23; ((with_reducible refine (record_m HM.out _ _ _ hl).mono ?_); rintro e w1 ⟨rfl, hN⟩; obtain ⟨lv1, hM1, hT, hL⟩ := hN; have hc0 := hM1.c0; obtain ⟨w2, hcp, HW⟩ := write_copy hM1 hT hL a s hn; clear hM1 hT hL)))
    go_ret
    exact ⟨rfl, HW.out⟩
  · obtain rfl : a = xs.length := by omega
    obtain rfl : s = ⟨#[]⟩ := by
      have hs : s.data.size = 0 := by have : s.size = 0 := by omega
                                      exact this
      apply ByteArray.ext
      exact Array.eq_empty_of_size_eq_zero hs
    clear ha
    go_enter Try.func14, Try.ntmps14
    go_wp2_with (first
      | (go_at_call 21; ((with_reducible refine (may_yes HM.out _ _ (by omega) (by omega) (by simp)).mono ?_); rintro e w' ⟨rfl, rfl⟩))
      | (go_at_call 23; ((with_reducible refine (record_m HM.out _ _ _ hl).mono ?_); rintro e w1 ⟨rfl, hN⟩; obtain ⟨lv1, hM1, hT, hL⟩ := hN; have hc0 := hM1.c0; obtain ⟨hcp, HW⟩ := write_none hM1 hT hL; clear hM1 hT hL)))
    go_ret
    exact ⟨rfl, HW.out⟩
theorem write_at (h : Mem B g gb lv xs ag lg w) (a : Int) (s : ByteArray) (hs : s.size ≤ maxLen) (hno : ¬ (0 ≤ (s.size : Int) ∧ 0 ≤ a ∧ a + s.size ≤ xs.length)) :
    Calls Try.prog 14 #[.pointer (some ⟨g, 0, none⟩), .int .i64 a, .string s] w fun e w' => e = .returned (.int .i64 41) ∧ w = w' := by
  have HM := Lib.hid h
  have HN := Lib.hid hno
  clear h hno
  unfold maxLen at hs
  go_enter Try.func14, Try.ntmps14
  go_wp2_with (go_at_call 21; ((with_reducible refine (may_no HM.out _ _ (by omega) HN.out).mono ?_); rintro e w' ⟨rfl, rfl⟩))
  go_ret
  exact ⟨rfl, rfl⟩
end
end Go.Proofs.Ytjcnjigmeopllaa

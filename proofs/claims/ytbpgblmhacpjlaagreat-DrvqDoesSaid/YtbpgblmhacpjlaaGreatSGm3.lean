/-
  What gmem's Read, Write, Load and Store answer, and what they leave: for every memory, all numbers and all bytes.
-/
import Derived.Test.YtbpgblmhacpjlaaGreatZc
import Derived.Lib.BufferWrite
namespace Go.Proofs.YtbpgblmhacpjlaaGreat
open Go.RowKit

section
variable {B g gb : Nat} {lv : Value} {xs : List UInt8} {w : World}
theorem Noted.refl (h : Mem B g gb lv xs w) : Noted B g gb lv xs w w := ⟨lv, h, Touch.refl, fun _ hk => .inl hk⟩
theorem Noted.of {w1 : World} {lv1 : Value} (hM : Mem B g gb lv1 xs w1) (hT : Touch g gb lv w w1) (hL : ∀ k, lv1.ownBlock = some k → lv.ownBlock = some k ∨ w.heap.size ≤ k) : Noted B g gb lv xs w w1 := ⟨lv1, hM, hT, hL⟩
theorem Noted.after {w1 : World} (h : Noted B g gb lv xs w w1) {w2 : World} (hb : Below w1.heap.size w1 w2) : Noted B g gb lv xs w w2 := by
  obtain ⟨lv1, hM, hT, hL⟩ := h
  refine ⟨lv1, hM.below hb (Nat.le_refl _), ?_, hL⟩
  exact ⟨hb.os.trans hT.os, hb.tape.trans hT.tape, hb.output.trans hT.output, Nat.le_trans hT.size hb.size, fun k hk a b c => (hb.block k (by have := hT.size; omega)).trans (hT.block k hk a b c)⟩
theorem Noted.ahead {w1 w2 : World} (hb : Below w.heap.size w w1) (h : Noted B g gb lv xs w1 w2) : Noted B g gb lv xs w w2 := by
  obtain ⟨lv1, hM, hT, hL⟩ := h
  refine ⟨lv1, hM, ⟨hT.os.trans hb.os, hT.tape.trans hb.tape, hT.output.trans hb.output, Nat.le_trans hb.size hT.size, fun k hk a b c => (hT.block k (by have := hb.size; omega) a b c).trans (hb.block k hk)⟩, fun k hk => ?_⟩
  rcases hL k hk with e | e
  · exact .inl e
  · right; have := hb.size; omega
theorem nothing_text (a : Addr) (cap : Nat) (w : World) : (convert 65 9 (.slice (some a) 0 cap)).run Tryz.prog w = .ok (.string ⟨#[]⟩) w :=
  run_convert_bytes_back w 65 9 5 a cap [] Tryz.underlying65 Tryz.underlying5 Tryz.underlying9 (fun j hj => by simp at hj)
set_option maxHeartbeats 1000000 in
theorem read_ok (h : Mem B g gb lv xs w) (a n : Nat) (hn : a + n ≤ xs.length) :
    Calls Tryz.prog 58 #[.pointer (some ⟨g, 0, none⟩), .int .i64 a, .int .i64 n] w fun e w' =>
      e = .returned (.tuple #[.string ⟨((xs.drop a).take n).toArray⟩, .int .i64 0]) ∧ Noted B g gb lv xs w w' := by
  have HM := Lib.hid h
  have hlen := h.len
  clear h
  by_cases ha : a < xs.length
  · go_enter Tryz.func58, Tryz.ntmps58
    go_wp2_with (first
      | (go_at_call 40; ((with_reducible refine (may_yes HM.out _ _ (by omega) (by omega) (by omega)).mono ?_); rintro e w' ⟨rfl, rfl⟩))
      | (go_at_call 41; ((with_reducible refine (record_m HM.out _ _ _).mono ?_); rintro e w1 ⟨rfl, hN⟩; obtain ⟨lv1, hM1, hT, hL⟩ := hN; obtain ⟨ag, lg, old, hR⟩ := id hM1; have hc0 := hR.c0; have htx := hR.text a n hn (xs.length - a); have HM1 := Lib.hid hM1; have HL := Lib.hid hL; clear hM1 hL hR)))
    go_ret2
    exact ⟨rfl, Noted.of HM1.out hT HL.out⟩
  · obtain rfl : a = xs.length := by omega
    obtain rfl : n = 0 := by omega
    clear ha hn
    have htx := nothing_text ⟨gb, 0, none⟩ 0
    rw [List.take_zero]
    go_enter Tryz.func58, Tryz.ntmps58
    go_wp2_with (first
      | (go_at_call 40; ((with_reducible refine (may_yes HM.out _ _ (by omega) (by omega) (by simp)).mono ?_); rintro e w' ⟨rfl, rfl⟩))
      | (go_at_call 41; ((with_reducible refine (record_m HM.out _ _ _).mono ?_); rintro e w1 ⟨rfl, hN⟩; obtain ⟨lv1, hM1, hT, hL⟩ := hN; obtain ⟨ag, lg, old, hR⟩ := id hM1; have hc0 := hR.c0; have HM1 := Lib.hid hM1; have HL := Lib.hid hL; clear hM1 hL hR)))
    go_ret2
    exact ⟨rfl, Noted.of HM1.out hT HL.out⟩

/-! Write -/
/-- bytes with others laid over them -/
def over (xs : List UInt8) (a : Nat) (s : ByteArray) : List UInt8 := xs.take a ++ s.data.toList ++ xs.drop (a + s.size)
theorem over_length (xs : List UInt8) (a : Nat) (s : ByteArray) (h : a + s.size ≤ xs.length) : (over xs a s).length = xs.length := by
  have : s.data.toList.length = s.size := rfl
  simp only [over, List.length_append, List.length_take, List.length_drop, this]
  omega
theorem over_cells (xs : List UInt8) (a : Nat) (s : ByteArray) :
    (((xs.map byteV).toArray.toList.take a ++ Lib.byteCells s.data.toList ++ (xs.map byteV).toArray.toList.drop (a + s.size)).toArray) = ((over xs a s).map byteV).toArray := by
  simp only [over, List.map_append, List.map_take, List.map_drop]
  rfl
/-- what a write leaves -/
def Wrote (B g gb : Nat) (lv : Value) (xs : List UInt8) (w w' : World) : Prop := Noted B g gb lv xs w w'
theorem wrote_mk {w1 : World} {lv1 : Value} (hM : Mem B g gb lv1 xs w1) (hT : Touch g gb lv w w1) (hL : ∀ k, lv1.ownBlock = some k → lv.ownBlock = some k ∨ w.heap.size ≤ k)
    (a : Nat) (s : ByteArray) (h : a + s.size ≤ xs.length) : Wrote B g gb lv (over xs a s) w (w1.setRow gb ((xs.map byteV).toArray.toList.take a ++ Lib.byteCells s.data.toList ++ (xs.map byteV).toArray.toList.drop (a + s.size)).toArray) := by
  have o : ∀ (cs : Array Value) (k : Nat), k ≠ gb → (w1.setRow gb cs).heap[k]? = w1.heap[k]? := fun cs k hk => setRow_other w1 gb k cs hk
  have hl := over_length xs a s h
  rw [over_cells]
  obtain ⟨ag, lg, old, hM⟩ := hM
  refine ⟨lv1, ⟨ag, lg, old, hM.hB, hM.hBb, ?_, setRow_heap w1 gb _ _ 5 _ hM.row, own_same hM.log (fun k hk => o _ k (fun e => hM.lneb (e ▸ hk))), by rw [hl]; exact hM.len, by rw [hl]; exact hM.pos, hM.most, hM.full⟩, ?_, hL⟩
  · rw [hl]; exact hM.blk.same (o _ g hM.ne)
  · exact ⟨hT.os, hT.tape, hT.output, by simpa [World.setRow] using hT.size, fun k hk a' b c => (o _ k b).trans (hT.block k hk a' b c)⟩
theorem Tryz.size5 : (Tryz.prog.info? 5).map (·.size) = some 1 := by kernel_rfl
/-- the copy of a write -/
theorem write_copy {w1 : World} {lv1 : Value} (hM : Mem B g gb lv1 xs w1) (hT : Touch g gb lv w w1) (hL : ∀ k, lv1.ownBlock = some k → lv.ownBlock = some k ∨ w.heap.size ≤ k)
    (a : Nat) (s : ByteArray) (h : a + s.size ≤ xs.length) : ∃ w2, (Builtin.copy_ #[65, 9] 3 #[.slice (some ⟨gb, a, none⟩) (xs.length - a) (xs.length - a), .string s]).run Tryz.prog w1 = .ok (.int .i64 s.size) w2 ∧
      Hid (Wrote B g gb lv (over xs a s) w w2) := by
  have hW := wrote_mk hM hT hL a s h
  obtain ⟨ag, lg, old, hM⟩ := hM
  exact ⟨_, Lib.run_copy_row_string (P := Tryz.prog) w1 65 9 3 5 gb a _ _ s _ 5 Tryz.underlying65 Tryz.size5 hM.row (by omega) (by simpa using h), hW⟩
theorem write_none {w1 : World} {lv1 : Value} (hM : Mem B g gb lv1 xs w1) (hT : Touch g gb lv w w1) (hL : ∀ k, lv1.ownBlock = some k → lv.ownBlock = some k ∨ w.heap.size ≤ k) :
    (Builtin.copy_ #[65, 9] 3 #[.slice (some ⟨gb, 0, none⟩) 0 0, .string ⟨#[]⟩]).run Tryz.prog w1 = .ok (.int .i64 0) w1 ∧
      Hid (Wrote B g gb lv (over xs xs.length ⟨#[]⟩) w w1) := by
  refine ⟨Lib.run_copy_empty_string (P := Tryz.prog) w1 65 9 3 5 _ _ _ ⟨#[]⟩ Tryz.underlying65 (by rw [Tryz.size5]; rfl) rfl, ?_⟩
  have e : over xs xs.length ⟨#[]⟩ = xs := by
    show xs.take xs.length ++ [] ++ xs.drop (xs.length + 0) = xs
    simp
  rw [e]
  exact ⟨lv1, hM, hT, hL⟩
set_option maxHeartbeats 1000000 in
theorem write_ok (h : Mem B g gb lv xs w) (a : Nat) (s : ByteArray) (hn : a + s.size ≤ xs.length) :
    Calls Tryz.prog 10 #[.pointer (some ⟨g, 0, none⟩), .int .i64 a, .string s] w fun e w' =>
      e = .returned (.int .i64 0) ∧ Wrote B g gb lv (over xs a s) w w' := by
  have HM := Lib.hid h
  have hlen := h.len
  clear h
  by_cases ha : a < xs.length
  · go_enter Tryz.func10, Tryz.ntmps10
    go_wp2_with (first
      | (go_at_call 40; ((with_reducible refine (may_yes HM.out _ _ (by omega) (by omega) (by omega)).mono ?_); rintro e w' ⟨rfl, rfl⟩))
      | (go_at_call 41; ((with_reducible refine (record_m HM.out _ _ _).mono ?_); rintro e w1 ⟨rfl, hN⟩; obtain ⟨lv1, hM1, hT, hL⟩ := hN; obtain ⟨ag, lg, old, hR⟩ := id hM1; have hc0 := hR.c0; obtain ⟨w2, hcp, HW⟩ := write_copy hM1 hT hL a s hn; clear hM1 hT hL hR)))
    go_ret
    exact ⟨rfl, HW.out⟩
  · obtain rfl : a = xs.length := by omega
    obtain rfl : s = ⟨#[]⟩ := by
      have hs : s.data.size = 0 := by have : s.size = 0 := by omega
                                      exact this
      apply ByteArray.ext
      exact Array.eq_empty_of_size_eq_zero hs
    clear ha
    go_enter Tryz.func10, Tryz.ntmps10
    go_wp2_with (first
      | (go_at_call 40; ((with_reducible refine (may_yes HM.out _ _ (by omega) (by omega) (by simp)).mono ?_); rintro e w' ⟨rfl, rfl⟩))
      | (go_at_call 41; ((with_reducible refine (record_m HM.out _ _ _).mono ?_); rintro e w1 ⟨rfl, hN⟩; obtain ⟨lv1, hM1, hT, hL⟩ := hN; obtain ⟨ag, lg, old, hR⟩ := id hM1; have hc0 := hR.c0; obtain ⟨hcp, HW⟩ := write_none hM1 hT hL; clear hM1 hT hL hR)))
    go_ret
    exact ⟨rfl, HW.out⟩
theorem write_at (h : Mem B g gb lv xs w) (a : Int) (s : ByteArray) (hs : s.size ≤ maxLen) (hno : ¬ (0 ≤ (s.size : Int) ∧ 0 ≤ a ∧ a + s.size ≤ xs.length)) :
    Calls Tryz.prog 10 #[.pointer (some ⟨g, 0, none⟩), .int .i64 a, .string s] w fun e w' => e = .returned (.int .i64 41) ∧ w = w' := by
  have HM := Lib.hid h
  have HN := Lib.hid hno
  clear h hno
  unfold maxLen at hs
  go_enter Tryz.func10, Tryz.ntmps10
  go_wp2_with (go_at_call 40; ((with_reducible refine (may_no HM.out _ _ (by omega) HN.out).mono ?_); rintro e w' ⟨rfl, rfl⟩))
  go_ret
  exact ⟨rfl, rfl⟩
/-- what Write answers, and what is there then -/
def wrE (xs : List UInt8) (a : Int) (s : ByteArray) : Int := if 0 ≤ a ∧ a + s.size ≤ xs.length then 0 else 41
def wrX (xs : List UInt8) (a : Int) (s : ByteArray) : List UInt8 := if 0 ≤ a ∧ a + s.size ≤ xs.length then over xs a.toNat s else xs
theorem wrX_length (xs : List UInt8) (a : Int) (s : ByteArray) : (wrX xs a s).length = xs.length := by
  unfold wrX
  split
  · exact over_length _ _ _ (by omega)
  · rfl
theorem write_any (h : Mem B g gb lv xs w) (a : Int) (s : ByteArray) (hs : s.size ≤ maxLen) :
    Calls Tryz.prog 10 #[.pointer (some ⟨g, 0, none⟩), .int .i64 a, .string s] w fun e w' => e = .returned (.int .i64 (wrE xs a s)) ∧ Wrote B g gb lv (wrX xs a s) w w' := by
  by_cases k : 0 ≤ a ∧ a + s.size ≤ xs.length
  · rw [wrE, wrX, if_pos k, if_pos k]
    obtain ⟨n, rfl⟩ := Int.eq_ofNat_of_zero_le k.1
    exact write_ok h n s (by omega)
  · rw [wrE, wrX, if_neg k, if_neg k]
    refine (write_at h a s hs (by omega)).mono ?_
    rintro e w' ⟨rfl, rfl⟩
    exact ⟨rfl, Noted.refl h⟩

/-! Load, Store -/
def Word (n : Nat) : Prop := n = 1 ∨ n = 2 ∨ n = 4 ∨ n = 8
theorem Word.le {n : Nat} (h : Word n) : 1 ≤ n ∧ n ≤ 8 := by rcases h with rfl | rfl | rfl | rfl <;> omega
theorem Word.int {n : Nat} (h : Word n) : (n : Int) = 1 ∨ (n : Int) = 2 ∨ (n : Int) = 4 ∨ (n : Int) = 8 := by rcases h with rfl | rfl | rfl | rfl <;> simp
theorem get_m (l : List UInt8) (n : Nat) (w : World) (h1 : 1 ≤ n) (h2 : n ≤ 8) (hl : l.length = n) :
    Calls Tryz.prog 93 #[.string ⟨l.toArray⟩, .int .i64 0, .int .i64 n, .bool false] w fun e w' => e = .returned (.tuple #[.int .u64 (val l), .int .i64 0]) ∧ Below w.heap.size w w' := by
  have hz : (⟨l.toArray⟩ : ByteArray).size = n := by show l.toArray.size = n; simpa using hl
  have := get_ok ⟨l.toArray⟩ 0 n false w (by rw [hz]; unfold maxLen; omega) h1 h2 (by omega)
  have e : cutl ⟨l.toArray⟩ 0 n = l := by simp [cutl, ← hl]
  rw [e] at this
  exact this
/-- the bytes of a number, the lowest first -/
def numS (v n : Nat) : ByteArray := ⟨(digs v n).toArray⟩
theorem numS_size (v n : Nat) : (numS v n).size = n := by
  show (digs v n).toArray.size = n
  simp [digs_length]
set_option maxHeartbeats 1000000 in
theorem store_ok (h : Mem B g gb lv xs w) (a n v : Nat) (hw : Word n) (hv : v < 256 ^ n) (hn : a + n ≤ xs.length) :
    Calls Tryz.prog 19 #[.pointer (some ⟨g, 0, none⟩), .int .i64 a, .int .i64 n, .int .u64 v] w fun e w' =>
      e = .returned (.int .i64 0) ∧ Wrote B g gb lv (over xs a (numS v n)) w w' := by
  have HW := Lib.hid hw.int
  obtain ⟨S, hS, eS⟩ : ∃ S, S.size = n ∧ numS v n = S := ⟨_, numS_size v n, rfl⟩
  have hp := fun w => put_ok v n false w hw.le.1 hw.le.2 hv
  have e : (⟨(enc v n false).toArray⟩ : ByteArray) = numS v n := rfl
  rw [e, eS] at hp
  have HP := Lib.hid hp
  have hr := fun w1 (hb : Below w.heap.size w w1) => write_ok (h.below hb (Nat.le_refl _)) a S (by omega)
  have HR := Lib.hid hr
  rw [eS]
  clear h hw hv hp hr hS eS e
  go_enter Tryz.func19, Tryz.ntmps19
  go_wp2_with (first
    | (go_at_call 51; ((with_reducible refine (word_yes _ _ HW.out).mono ?_); rintro e w' ⟨rfl, rfl⟩))
    | (go_at_call 52; ((with_reducible refine (HP.out _).mono ?_); rintro e w1 ⟨rfl, hb⟩))
    | (go_at_call 10; ((with_reducible refine (HR.out _ hb).mono ?_); rintro e w2 ⟨rfl, hN⟩)))
  go_ret
  exact ⟨rfl, Noted.ahead hb hN⟩
end
end Go.Proofs.YtbpgblmhacpjlaaGreat

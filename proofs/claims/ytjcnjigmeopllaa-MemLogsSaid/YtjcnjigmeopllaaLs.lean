/-
  What gmem's Load and Store answer, and what they leave: for every memory whose log has room and all numbers.
-/
import Derived.Test.YtjcnjigmeopllaaRw
namespace Go.Proofs.Ytjcnjigmeopllaa
open Go.RowKit

/-- the sizes that Load and Store take -/
def Word (n : Nat) : Prop := n = 1 ∨ n = 2 ∨ n = 4 ∨ n = 8
theorem Word.le {n : Nat} (h : Word n) : 1 ≤ n ∧ n ≤ 8 := by rcases h with rfl | rfl | rfl | rfl <;> omega
theorem Word.int {n : Nat} (h : Word n) : (n : Int) = 1 ∨ (n : Int) = 2 ∨ (n : Int) = 4 ∨ (n : Int) = 8 := by rcases h with rfl | rfl | rfl | rfl <;> simp

section
variable {B g gb : Nat} {lv : Value} {xs : List UInt8} {ag : Int} {lg : List Acc} {w : World}
theorem Noted.after {w1 : World} (h : Noted B g gb lv xs ag lg w w1) {w2 : World} (hb : Below w1.heap.size w1 w2) : Noted B g gb lv xs ag lg w w2 := by
  obtain ⟨lv1, hM, hT, hL⟩ := h
  refine ⟨lv1, hM.below hb (Nat.le_refl _), ?_, hL⟩
  exact ⟨hb.os.trans hT.os, hb.tape.trans hT.tape, hb.output.trans hT.output, Nat.le_trans hT.size hb.size, fun k hk a b c => (hb.block k (by have := hT.size; omega)).trans (hT.block k hk a b c)⟩
theorem Noted.ahead {w1 w2 : World} (hb : Below w.heap.size w w1) (h : Noted B g gb lv xs ag lg w1 w2) : Noted B g gb lv xs ag lg w w2 := by
  obtain ⟨lv1, hM, hT, hL⟩ := h
  refine ⟨lv1, hM, ⟨hT.os.trans hb.os, hT.tape.trans hb.tape, hT.output.trans hb.output, Nat.le_trans hb.size hT.size, fun k hk a b c => (hT.block k (by have := hb.size; omega) a b c).trans (hb.block k hk)⟩, fun k hk => ?_⟩
  rcases hL k hk with e | e
  · exact .inl e
  · right; have := hb.size; omega
theorem get_m (l : List UInt8) (n : Nat) (w : World) (h1 : 1 ≤ n) (h2 : n ≤ 8) (hl : l.length = n) :
    Calls Try.prog 27 #[.string ⟨l.toArray⟩, .int .i64 0, .int .i64 n, .bool false] w fun e w' => e = .returned (.tuple #[.int .u64 (val l), .int .i64 0]) ∧ Below w.heap.size w w' := by
  have hz : (⟨l.toArray⟩ : ByteArray).size = n := by show l.toArray.size = n; simpa using hl
  have := get_ok ⟨l.toArray⟩ 0 n false w (by rw [hz]; unfold maxLen; omega) h1 h2 (by omega)
  have e : cutl ⟨l.toArray⟩ 0 n = l := by simp [cutl, ← hl]
  rw [e] at this
  exact this
set_option maxHeartbeats 1000000 in
theorem load_ok (h : Mem B g gb lv xs ag lg w) (a n : Nat) (hl : lg.length < 4096) (hw : Word n) (hn : a + n ≤ xs.length) :
    Calls Try.prog 19 #[.pointer (some ⟨g, 0, none⟩), .int .i64 a, .int .i64 n] w fun e w' =>
      e = .returned (.tuple #[.int .u64 (val ((xs.drop a).take n)), .int .i64 0]) ∧ Noted B g gb lv xs ag (note lg ⟨ag, a, n, false⟩) w w' := by
  have HM := Lib.hid h
  have HW := Lib.hid hw.int
  obtain ⟨L, hL, eL⟩ : ∃ L, L.length = n ∧ (xs.drop a).take n = L := ⟨_, by simp; omega, rfl⟩
  have hg := fun w => get_m L n w hw.le.1 hw.le.2 hL
  have hr := read_ok h a n hl hn
  rw [eL] at hr ⊢
  have HG := Lib.hid hg
  have HR := Lib.hid hr
  clear h hw hg hr hL eL
  go_enter Try.func19, Try.ntmps19
  go_wp2_with (first
    | (go_at_call 25; ((with_reducible refine (word_yes _ _ HW.out).mono ?_); rintro e w' ⟨rfl, rfl⟩))
    | (go_at_call 16; ((with_reducible refine HR.out.mono ?_); rintro e w1 ⟨rfl, hN⟩))
    | (go_at_call 27; ((with_reducible refine (HG.out _).mono ?_); rintro e w2 ⟨rfl, hb⟩)))
  go_ret2
  exact ⟨rfl, hN.after hb⟩
theorem load_word (a n : Int) (w : World) (hw : ¬ (n = 1 ∨ n = 2 ∨ n = 4 ∨ n = 8)) :
    Calls Try.prog 19 #[.pointer (some ⟨g, 0, none⟩), .int .i64 a, .int .i64 n] w fun e w' => e = .returned (.tuple #[.int .u64 0, .int .i64 1]) ∧ w = w' := by
  have HW := Lib.hid hw
  clear hw
  go_enter Try.func19, Try.ntmps19
  go_wp2_with (go_at_call 25; ((with_reducible refine (word_no _ _ HW.out).mono ?_); rintro e w' ⟨rfl, rfl⟩))
  go_ret2
  exact ⟨rfl, rfl⟩
theorem load_at (h : Mem B g gb lv xs ag lg w) (a : Int) (n : Nat) (hw : Word n) (hno : ¬ (0 ≤ (n : Int) ∧ 0 ≤ a ∧ a + n ≤ xs.length)) :
    Calls Try.prog 19 #[.pointer (some ⟨g, 0, none⟩), .int .i64 a, .int .i64 n] w fun e w' => e = .returned (.tuple #[.int .u64 0, .int .i64 41]) ∧ w = w' := by
  have HW := Lib.hid hw.int
  have hr := read_at h a n (by omega) (by have := hw.le; omega) hno
  have HR := Lib.hid hr
  clear h hw hr hno
  go_enter Try.func19, Try.ntmps19
  go_wp2_with (first
    | (go_at_call 25; ((with_reducible refine (word_yes _ _ HW.out).mono ?_); rintro e w' ⟨rfl, rfl⟩))
    | (go_at_call 16; ((with_reducible refine HR.out.mono ?_); rintro e w1 ⟨rfl, rfl⟩)))
  go_ret2
  exact ⟨rfl, rfl⟩

/-- the bytes of a number, the lowest first -/
def numS (v n : Nat) : ByteArray := ⟨(digs v n).toArray⟩
theorem numS_size (v n : Nat) : (numS v n).size = n := by
  show (digs v n).toArray.size = n
  simp [digs_length]
set_option maxHeartbeats 1000000 in
theorem store_ok (h : Mem B g gb lv xs ag lg w) (a n v : Nat) (hl : lg.length < 4096) (hw : Word n) (hv : v < 256 ^ n) (hn : a + n ≤ xs.length) :
    Calls Try.prog 18 #[.pointer (some ⟨g, 0, none⟩), .int .i64 a, .int .i64 n, .int .u64 v] w fun e w' =>
      e = .returned (.int .i64 0) ∧ Wrote B g gb lv (over xs a (numS v n)) ag (note lg ⟨ag, a, n, true⟩) w w' := by
  have HM := Lib.hid h
  have HW := Lib.hid hw.int
  obtain ⟨S, hS, eS⟩ : ∃ S, S.size = n ∧ numS v n = S := ⟨_, numS_size v n, rfl⟩
  have hp := fun w => put_ok v n false w hw.le.1 hw.le.2 hv
  have e : (⟨(enc v n false).toArray⟩ : ByteArray) = numS v n := rfl
  rw [e, eS] at hp
  have HP := Lib.hid hp
  have hr := fun w1 (hb : Below w.heap.size w w1) => write_ok (h.below hb (Nat.le_refl _)) a S hl (by omega)
  rw [hS] at hr
  have HR := Lib.hid hr
  rw [eS]
  clear h hw hv hp hr hS eS e
  go_enter Try.func18, Try.ntmps18
  go_wp2_with (first
    | (go_at_call 25; ((with_reducible refine (word_yes _ _ HW.out).mono ?_); rintro e w' ⟨rfl, rfl⟩))
    | (go_at_call 26; ((with_reducible refine (HP.out _).mono ?_); rintro e w1 ⟨rfl, hb⟩))
    | (go_at_call 14; ((with_reducible refine (HR.out _ hb).mono ?_); rintro e w2 ⟨rfl, hN⟩)))
  go_ret
  exact ⟨rfl, Noted.ahead hb hN⟩
theorem store_word (a n v : Int) (w : World) (hw : ¬ (n = 1 ∨ n = 2 ∨ n = 4 ∨ n = 8)) :
    Calls Try.prog 18 #[.pointer (some ⟨g, 0, none⟩), .int .i64 a, .int .i64 n, .int .u64 v] w fun e w' => e = .returned (.int .i64 1) ∧ w = w' := by
  have HW := Lib.hid hw
  clear hw
  go_enter Try.func18, Try.ntmps18
  go_wp2_with (go_at_call 25; ((with_reducible refine (word_no _ _ HW.out).mono ?_); rintro e w' ⟨rfl, rfl⟩))
  go_ret
  exact ⟨rfl, rfl⟩
theorem store_great (a : Int) (n : Nat) (v : Int) (w : World) (hw : Word n) (h0 : 0 ≤ v) (hv : ¬ v < 256 ^ n) :
    Calls Try.prog 18 #[.pointer (some ⟨g, 0, none⟩), .int .i64 a, .int .i64 n, .int .u64 v] w fun e w' => e = .returned (.int .i64 1) ∧ w = w' := by
  have HW := Lib.hid hw.int
  have hp := fun w => put_great v n false w h0 hw.le.1 hw.le.2 hv
  have HP := Lib.hid hp
  clear hp hw hv
  go_enter Try.func18, Try.ntmps18
  go_wp2_with (first
    | (go_at_call 25; ((with_reducible refine (word_yes _ _ HW.out).mono ?_); rintro e w' ⟨rfl, rfl⟩))
    | (go_at_call 26; ((with_reducible refine (HP.out _).mono ?_); rintro e w1 ⟨rfl, rfl⟩)))
  go_ret
  exact ⟨rfl, rfl⟩
theorem store_at (h : Mem B g gb lv xs ag lg w) (a : Int) (n v : Nat) (hw : Word n) (hv : v < 256 ^ n) (hno : ¬ (0 ≤ (n : Int) ∧ 0 ≤ a ∧ a + n ≤ xs.length)) :
    Calls Try.prog 18 #[.pointer (some ⟨g, 0, none⟩), .int .i64 a, .int .i64 n, .int .u64 v] w fun e w' => e = .returned (.int .i64 41) ∧ Below w.heap.size w w' := by
  have HW := Lib.hid hw.int
  obtain ⟨S, hS, eS⟩ : ∃ S, S.size = n ∧ numS v n = S := ⟨_, numS_size v n, rfl⟩
  have hp := fun w => put_ok v n false w hw.le.1 hw.le.2 hv
  have e : (⟨(enc v n false).toArray⟩ : ByteArray) = numS v n := rfl
  rw [e, eS] at hp
  have HP := Lib.hid hp
  have hr := fun w1 (hb : Below w.heap.size w w1) => write_at (h.below hb (Nat.le_refl _)) a S (by rw [hS]; have := hw.le; unfold maxLen; omega) (by rw [hS]; exact hno)
  have HR := Lib.hid hr
  clear h hw hv hp hr hS eS e hno
  go_enter Try.func18, Try.ntmps18
  go_wp2_with (first
    | (go_at_call 25; ((with_reducible refine (word_yes _ _ HW.out).mono ?_); rintro e w' ⟨rfl, rfl⟩))
    | (go_at_call 26; ((with_reducible refine (HP.out _).mono ?_); rintro e w1 ⟨rfl, hb⟩))
    | (go_at_call 14; ((with_reducible refine (HR.out _ hb).mono ?_); rintro e w2 ⟨rfl, rfl⟩)))
  go_ret
  exact ⟨rfl, hb⟩
end
end Go.Proofs.Ytjcnjigmeopllaa

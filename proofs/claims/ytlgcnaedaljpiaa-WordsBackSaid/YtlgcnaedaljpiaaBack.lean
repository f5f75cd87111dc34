/-
  What is put is got, what is set stands there alone, and big bytes are the others turned about: on plain bytes; no condition.
-/
import Derived.Test.YtlgcnaedaljpiaaWapart
namespace Go.Proofs.Ytlgcnaedaljpiaa
open Go.Joins Go.ChangeShapes Go.WideShapes Go.ChangeAt Go.RowKit Go.Deep

theorem of_list {x y : ByteArray} (h : x.data.toList = y.data.toList) : x = y := by
  apply ByteArray.ext
  exact Array.toList_inj.1 h
theorem turn_twice (s : ByteArray) : turnS (turnS s) = s := by
  apply of_list
  simp [turnS]
theorem enc_turn (v n : Nat) (big : Bool) : (enc v n big).reverse = enc v n (!big) := by
  cases big <;> simp [enc]
theorem putS_list (v : Int) (n : Nat) (big : Bool) (hp : putE v n = 0) : (putS v n big).data.toList = enc v.toNat n big := by
  rcases putE_cases v n with ⟨_, h⟩ | ⟨h, _⟩
  · rw [putS, if_pos h]; rfl
  · omega
theorem turn_put (v : Int) (n : Nat) (big : Bool) (hp : putE v n = 0) : turnS (putS v n big) = putS v n (!big) := by
  apply of_list
  rw [putS_list v n _ hp, ← enc_turn, ← putS_list v n big hp]
  simp [turnS]
theorem get_of_list (s : ByteArray) (a n : Nat) (v : Int) (big : Bool) (h0 : 0 ≤ v) (h1 : 1 ≤ n) (h2 : n ≤ 8) (h4 : a + n ≤ s.size) (hp : putE v n = 0) (h : cutl s a n = enc v.toNat n big) :
    getV s a n big = v ∧ getE s a n = 0 := by
  constructor
  · rw [getV, if_pos (by omega)]
    show (dec (cutl s a n) big : Int) = v
    rw [h, dec_enc]
    · omega
    · rcases putE_cases v n with ⟨_, _, _, hv⟩ | ⟨hv, _⟩
      · have := pow_cast n
        simp only [Int.toNat_natCast] at hv
        omega
      · omega
  · rw [getE, if_pos (by omega), if_pos (by omega)]
/-- a list that was cut and put together anew -/
theorem cut_mid (l m r : List UInt8) (a n : Nat) (ha : l.length = a) (hn : m.length = n) : ((l ++ m ++ r).drop a).take n = m := by
  subst ha hn
  rw [List.append_assoc, List.drop_left, List.take_left]
theorem set_list (s : ByteArray) (a n : Nat) (v : Int) (big : Bool) (hp : putE v n = 0) (h : a + n ≤ s.size) :
    (setS s a v n big).data.toList = s.data.toList.take a ++ enc v.toNat n big ++ s.data.toList.drop (a + n) := by
  rw [setS_ok s a n v big hp h]
  simp only [ByteArray.data_append, Array.toList_append, ext_list s 0 a, ext_end, List.drop_zero, Nat.sub_zero, putS_list v n big hp]
theorem set_size (s : ByteArray) (a n : Nat) (v : Int) (big : Bool) (hp : putE v n = 0) (h : a + n ≤ s.size) : (setS s a v n big).size = s.size := by
  have e : (setS s a v n big).size = (setS s a v n big).data.toList.length := rfl
  have e' : s.size = s.data.toList.length := rfl
  rw [e, set_list s a n v big hp h]
  simp only [List.length_append, List.length_take, List.length_drop, enc_length]
  omega
/-- The calls of the law that take no place, in the names of their answers. -/
theorem put_calls (n : Nat) (v : Int) (big : Bool) (h0 : 0 ≤ v) (h1 : 1 ≤ n) (h2 : n ≤ 8) (hp : putE v n = 0) :
    ∃ A B : ByteArray, A.size = n ∧
      Hid (∀ w : World, Calls Try.prog 11 #[.int .u64 v, .int .i64 n, .bool big] w fun e w' => e = .returned (.tuple #[.string A, .int .i64 0]) ∧ Below w.heap.size w w') ∧
      Hid (∀ w : World, Calls Try.prog 11 #[.int .u64 v, .int .i64 n, .bool !big] w fun e w' => e = .returned (.tuple #[.string B, .int .i64 0]) ∧ Below w.heap.size w w') ∧
      Hid (∀ w : World, Calls Try.prog 16 #[.string A] w fun e w' => e = .returned (.string B) ∧ Below w.heap.size w w') ∧
      Hid (∀ w : World, Calls Try.prog 9 #[.string A, .int .i64 0, .int .i64 n, .bool big] w fun e w' => e = .returned (.tuple #[.int .u64 v, .int .i64 0]) ∧ Below w.heap.size w w') := by
  have lA := putS_len v n big hp
  refine ⟨putS v n big, putS v n (!big), lA, fun w => ?_, fun w => ?_, fun w => ?_, fun w => ?_⟩
  · have g := put_any v n big w h0
    rw [hp] at g; exact g
  · have g := put_any v n (!big) w h0
    rw [hp] at g; exact g
  · have g := turn_any (putS v n big) w (by omega)
    rw [turn_put v n big hp] at g; exact g
  · have g := get_any (putS v n big) 0 n big w (by unfold maxLen; omega)
    obtain ⟨e1, e2⟩ := get_of_list (putS v n big) 0 n v big h0 h1 h2 (by omega) hp (by
      unfold cutl
      rw [putS_list v n big hp, List.drop_zero, List.take_of_length_le (by rw [enc_length]; exact Nat.le_refl _)])
    rw [show ((0 : Nat) : Int) = 0 from rfl] at e1 e2
    rw [e1, e2] at g; exact g
/-- Those at a place where a number is set. -/
theorem set_calls (s : ByteArray) (a n : Nat) (v : Int) (big : Bool) (h0 : 0 ≤ v) (h1 : 1 ≤ n) (h2 : n ≤ 8) (hp : putE v n = 0) (h : a + n ≤ s.size) (hs : s.size ≤ 140737488351232) :
    ∃ S T : ByteArray, S.size = s.size ∧ S.extract 0 a = s.extract 0 a ∧ S.extract (a + n) s.size = s.extract (a + n) s.size ∧
      Hid (∀ w : World, Calls Try.prog 14 #[.string s, .int .i64 a, .int .u64 v, .int .i64 n, .bool big] w fun e w' => e = .returned (.tuple #[.string S, .int .i64 0]) ∧ Below w.heap.size w w') ∧
      Hid (∀ w : World, Calls Try.prog 9 #[.string S, .int .i64 a, .int .i64 n, .bool big] w fun e w' => e = .returned (.tuple #[.int .u64 v, .int .i64 0]) ∧ Below w.heap.size w w') ∧
      Hid (∀ w : World, Calls Try.prog 16 #[.string s] w fun e w' => e = .returned (.string T) ∧ Below w.heap.size w w') ∧
      Hid (∀ w : World, Calls Try.prog 16 #[.string T] w fun e w' => e = .returned (.string s) ∧ Below w.heap.size w w') := by
  have hS := set_size s a n v big hp h
  have hL := set_list s a n v big hp h
  have lt : (s.data.toList.take a).length = a := by
    have : s.data.toList.length = s.size := rfl
    rw [List.length_take]; omega
  have hT : (turnS s).size = s.size := by
    show (s.data.toList.reverse.toArray).size = s.size
    rw [List.size_toArray, List.length_reverse]; rfl
  refine ⟨setS s a v n big, turnS s, hS, ?_, ?_, fun w => ?_, fun w => ?_, fun w => ?_, fun w => ?_⟩
  · apply of_list
    rw [ext_list, ext_list, hL, List.append_assoc]
    simp only [List.drop_zero, Nat.sub_zero]
    rw [List.take_left' lt]
  · have e := ext_end (setS s a v n big) (a + n)
    rw [hS] at e
    apply of_list
    rw [e, ext_end, hL]
    rw [List.drop_left' (by rw [List.length_append, lt, enc_length])]
  · have g := set_any s a v n big w (by omega) h0
    rw [setE_ok s a n v hp h] at g; exact g
  · have g := get_any (setS s a v n big) a n big w (by unfold maxLen; omega)
    obtain ⟨e1, e2⟩ := get_of_list (setS s a v n big) a n v big h0 h1 h2 (by omega) hp (by
      unfold cutl
      rw [hL, cut_mid _ _ _ a n lt (enc_length _ _ _)])
    rw [e1, e2] at g; exact g
  · exact turn_any s w (by omega)
  · have g := turn_any (turnS s) w (by omega)
    rw [turn_twice] at g; exact g
end Go.Proofs.Ytlgcnaedaljpiaa

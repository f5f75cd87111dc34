/-
  What words.Set and the document's own Set answer, for every string of at most 2 to the 48 bytes and all numbers.
-/
import Derived.Test.YtpjndjmneficbaaPut
namespace Go.Proofs.Ytpjndjmneficbaa
open Go.RowKit

theorem putS_size (v n : Int) (big : Bool) : (putS v n big).size ≤ 8 := by
  unfold putS
  split
  · show (enc v.toNat n.toNat big).toArray.size ≤ 8
    simp only [List.size_toArray, enc_length]; omega
  · show #[].size ≤ 8
    simp
set_option maxHeartbeats 400000 in
theorem set_ok (s : ByteArray) (a : Nat) (v : Int) (n : Nat) (big : Bool) (w : World) (hs : s.size ≤ 281474976710656) (h0 : 0 ≤ v) (h1 : 1 ≤ n) (h2 : n ≤ 8) (hv : putE v n = 0) (h4 : a + n ≤ s.size) :
    Calls Try.prog 77 #[.string s, .int .i64 a, .int .u64 v, .int .i64 n, .bool big] w fun e w' => e = .returned (.tuple #[.string (s.extract 0 a ++ putS v n big ++ s.extract (a + n) s.size), .int .i64 0]) ∧ Below w.heap.size w w' := by
  have hput := fun w => put_any v n big w h0
  rw [hv] at hput
  have HP := Lib.hid hput
  clear hput hv
  go_enter Try.func77, Try.ntmps77
  go_wp2_with (first
    | (go_at_call 64; refine (HP.out _).mono ?_; rintro e w' ⟨rfl, hb⟩)
    | (go_at_call 82; refine (holds_yes _ _ _ _ (by unfold maxLen; omega) (by omega) (by omega) (by omega) (by omega)).mono ?_; rintro e w' ⟨rfl, rfl⟩))
  have g1 : a ≤ s.size := by omega
  have g2 : (0 : Int) ≤ (a : Int) + n := by omega
  have g3 : (a : Int) + n ≤ s.size := by omega
  have g4 : IntKind.i64.wrap ((a : Int) + n) = (a : Int) + n := IntWalk.i64_in _ (by omega)
  have g5 : ((a : Int) + n).toNat = a + n := by omega
  have g6 := putS_size v n big
  have g7 : ¬ 9223372036854775807 < a + (putS v n big).size := by omega
  have g8 : ¬ 9223372036854775807 < a + (putS v n big).size + (s.size - (a + n)) := by omega
  go_quiet (fail)
  clear g4 g5 g7 g8
  go_wp2
  go_ret2
  exact ⟨rfl, below_drewN hb _⟩
theorem set_put (s : ByteArray) (a v n : Int) (big : Bool) (w : World) (h0 : 0 ≤ v) (hv : putE v n = 1) :
    Calls Try.prog 77 #[.string s, .int .i64 a, .int .u64 v, .int .i64 n, .bool big] w fun e w' => e = .returned (.tuple #[.string ⟨#[]⟩, .int .i64 1]) ∧ Below w.heap.size w w' := by
  have hput := fun w => put_any v n big w h0
  rw [hv] at hput
  have HP := Lib.hid hput
  clear hput hv
  go_enter Try.func77, Try.ntmps77
  go_wp2_with (go_at_call 64; refine (HP.out _).mono ?_; rintro e w' ⟨rfl, hb⟩)
  go_ret2
  exact ⟨rfl, hb⟩
theorem set_at (s : ByteArray) (a v n : Int) (big : Bool) (w : World) (hs : s.size ≤ 281474976710656) (h0 : 0 ≤ v) (h1 : 1 ≤ n) (h2 : n ≤ 8) (hv : putE v n = 0) (h : a < 0 ∨ (s.size : Int) < a + n) :
    Calls Try.prog 77 #[.string s, .int .i64 a, .int .u64 v, .int .i64 n, .bool big] w fun e w' => e = .returned (.tuple #[.string ⟨#[]⟩, .int .i64 10]) ∧ Below w.heap.size w w' := by
  have hput := fun w => put_any v n big w h0
  rw [hv] at hput
  have HP := Lib.hid hput
  clear hput hv
  have HH := Lib.hid h
  clear h
  go_enter Try.func77, Try.ntmps77
  go_wp2_with (first
    | (go_at_call 64; refine (HP.out _).mono ?_; rintro e w' ⟨rfl, hb⟩)
    | (go_at_call 82; refine (holds_no _ _ _ _ (by unfold maxLen; omega) h1 h2 HH.out).mono ?_; rintro e w' ⟨rfl, rfl⟩))
  go_ret2
  exact ⟨rfl, hb⟩

def setE (s : ByteArray) (a v n : Int) : Int := if putE v n = 0 then (if 0 ≤ a ∧ a + n ≤ s.size then 0 else 10) else 1
def setS (s : ByteArray) (a v n : Int) (big : Bool) : ByteArray :=
  if putE v n = 0 ∧ 0 ≤ a ∧ a + n ≤ s.size then s.extract 0 a.toNat ++ putS v n big ++ s.extract (a.toNat + n.toNat) s.size else ⟨#[]⟩
theorem putE_cases (v n : Int) : (putE v n = 0 ∧ 1 ≤ n ∧ n ≤ 8 ∧ v < 256 ^ n.toNat) ∨ (putE v n = 1 ∧ ¬ (1 ≤ n ∧ n ≤ 8 ∧ v < 256 ^ n.toNat)) := by
  by_cases h : 1 ≤ n ∧ n ≤ 8 ∧ v < 256 ^ n.toNat
  · exact .inl ⟨by rw [putE, if_pos h], h⟩
  · exact .inr ⟨by rw [putE, if_neg h], h⟩
/-- What both come to. -/
theorem set_join {f : FuncId} (s : ByteArray) (a v n : Int) (big : Bool) (w : World)
    (hput : putE v n = 1 → Calls Try.prog f #[.string s, .int .i64 a, .int .u64 v, .int .i64 n, .bool big] w fun e w' => e = .returned (.tuple #[.string ⟨#[]⟩, .int .i64 1]) ∧ Below w.heap.size w w')
    (hat : putE v n = 0 → 1 ≤ n → n ≤ 8 → (a < 0 ∨ (s.size : Int) < a + n) → Calls Try.prog f #[.string s, .int .i64 a, .int .u64 v, .int .i64 n, .bool big] w fun e w' => e = .returned (.tuple #[.string ⟨#[]⟩, .int .i64 10]) ∧ Below w.heap.size w w')
    (hok : ∀ b k : Nat, a = b → n = k → putE v n = 0 → 1 ≤ k → k ≤ 8 → b + k ≤ s.size → Calls Try.prog f #[.string s, .int .i64 b, .int .u64 v, .int .i64 k, .bool big] w fun e w' => e = .returned (.tuple #[.string (s.extract 0 b ++ putS v k big ++ s.extract (b + k) s.size), .int .i64 0]) ∧ Below w.heap.size w w') :
    Calls Try.prog f #[.string s, .int .i64 a, .int .u64 v, .int .i64 n, .bool big] w fun e w' => e = .returned (.tuple #[.string (setS s a v n big), .int .i64 (setE s a v n)]) ∧ Below w.heap.size w w' := by
  rcases putE_cases v n with ⟨hp, h1, h2, _⟩ | ⟨hp, _⟩
  · by_cases h3 : 0 ≤ a ∧ a + n ≤ s.size
    · have e1 : setS s a v n big = s.extract 0 a.toNat ++ putS v n big ++ s.extract (a.toNat + n.toNat) s.size := by rw [setS, if_pos ⟨hp, h3⟩]
      have e2 : setE s a v n = 0 := by rw [setE, if_pos hp, if_pos h3]
      rw [e1, e2]
      obtain ⟨k, rfl⟩ := Int.eq_ofNat_of_zero_le (show 0 ≤ n by omega)
      obtain ⟨b, rfl⟩ := Int.eq_ofNat_of_zero_le h3.1
      exact hok b k rfl rfl hp (by omega) (by omega) (by omega)
    · have e1 : setS s a v n big = ⟨#[]⟩ := by rw [setS, if_neg (fun h => h3 h.2)]
      have e2 : setE s a v n = 10 := by rw [setE, if_pos hp, if_neg h3]
      rw [e1, e2]
      exact hat hp h1 h2 (by omega)
  · have e1 : setS s a v n big = ⟨#[]⟩ := by rw [setS, if_neg (fun h => by omega)]
    have e2 : setE s a v n = 1 := by rw [setE, if_neg (by omega)]
    rw [e1, e2]
    exact hput hp
theorem set_any (s : ByteArray) (a v n : Int) (big : Bool) (w : World) (hs : s.size ≤ 281474976710656) (h0 : 0 ≤ v) :
    Calls Try.prog 77 #[.string s, .int .i64 a, .int .u64 v, .int .i64 n, .bool big] w fun e w' => e = .returned (.tuple #[.string (setS s a v n big), .int .i64 (setE s a v n)]) ∧ Below w.heap.size w w' :=
  set_join s a v n big w (fun hp => set_put s a v n big w h0 hp) (fun hp h1 h2 h => set_at s a v n big w hs h0 h1 h2 hp h)
    (fun b k _ hn hp h1 h2 h4 => set_ok s b v k big w hs h0 h1 h2 (hn ▸ hp) h4)

end Go.Proofs.Ytpjndjmneficbaa

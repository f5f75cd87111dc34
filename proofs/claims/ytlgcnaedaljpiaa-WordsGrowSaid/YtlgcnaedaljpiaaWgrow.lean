/-
  For every input the law WordsGrow returns true, and its arguments read afterwards as before; no condition.
-/
import Derived.Test.YtlgcnaedaljpiaaWparts
namespace Go.Proofs.Ytlgcnaedaljpiaa
open Go.Joins Go.ChangeShapes Go.WideShapes Go.ChangeAt Go.RowKit Go.Deep

theorem enc_big (v n : Nat) (h : v < 256 ^ n) : enc v (n + 1) true = 0 :: enc v n true := by
  simp only [enc, if_true, digs_snoc, List.reverse_append, List.reverse_cons, List.reverse_nil, List.nil_append, List.singleton_append]
  rw [Nat.div_eq_of_lt h]; rfl
theorem enc_more (v n m : Nat) (h : v < 256 ^ n) : (enc v (n + m) true).drop m = enc v n true := by
  induction m with
  | zero => rfl
  | succ m ih =>
    have h' : v < 256 ^ (n + m) := Nat.lt_of_lt_of_le h (Nat.pow_le_pow_right (by decide) (by omega))
    rw [show n + (m + 1) = n + m + 1 by omega, enc_big v (n + m) h', List.drop_succ_cons, ih]
theorem ext_tail (s : ByteArray) (a : Nat) : s.extract a s.size = ⟨(s.data.toList.drop a).toArray⟩ := by
  apply ByteArray.ext
  apply Array.toList_inj.1
  rw [ByteArray.data_extract, Array.toList_extract, List.extract_eq_take_drop, List.take_of_length_le]
  rw [List.length_drop]
  have : s.data.toList.length = s.size := rfl
  omega
/-- The three calls of the law, in the names of their answers, where the number fits. -/
theorem three (v : Nat) (k : Nat) (h64 : v < 18446744073709551616) (h1 : 1 ≤ k) (h7 : k ≤ 7) (hv : v < 256 ^ k) :
    ∃ A B C : ByteArray, (⟨#[0]⟩ : ByteArray) ++ A = B ∧ A.size ≤ 7 ∧ C.size = 8 ∧ C.extract (8 - k) 8 = A ∧
      (∀ w : World, Calls Try.prog 11 #[.int .u64 v, .int .i64 k, .bool true] w fun e w' => e = .returned (.tuple #[.string A, .int .i64 0]) ∧ Below w.heap.size w w') ∧
      (∀ w : World, Calls Try.prog 11 #[.int .u64 v, .int .i64 ((k : Int) + 1), .bool true] w fun e w' => e = .returned (.tuple #[.string B, .int .i64 0]) ∧ Below w.heap.size w w') ∧
      (∀ w : World, Calls Try.prog 11 #[.int .u64 v, .int .i64 8, .bool true] w fun e w' => e = .returned (.tuple #[.string C, .int .i64 0]) ∧ Below w.heap.size w w') := by
  have hv1 : v < 256 ^ (k + 1) := Nat.lt_of_lt_of_le hv (Nat.pow_le_pow_right (by decide) (by omega))
  refine ⟨⟨(enc v k true).toArray⟩, ⟨(enc v (k + 1) true).toArray⟩, ⟨(enc v 8 true).toArray⟩, ?_, ?_, ?_, ?_, fun w => put_ok v k true w h1 (by omega) hv, fun w => put_ok v (k + 1) true w (by omega) (by omega) hv1, fun w => put_ok v 8 true w (by decide) (by decide) h64⟩
  · rw [enc_big v k hv]
    exact ByteArray.mk_append_mk [0] (enc v k true)
  · show (enc v k true).toArray.size ≤ 7
    rw [List.size_toArray, enc_length]; exact h7
  · show (enc v 8 true).toArray.size = 8
    rw [List.size_toArray, enc_length]
  · have e8 : (⟨(enc v 8 true).toArray⟩ : ByteArray).size = 8 := by
      show (enc v 8 true).toArray.size = 8
      rw [List.size_toArray, enc_length]
    have t := ext_tail ⟨(enc v 8 true).toArray⟩ (8 - k)
    rw [e8] at t
    rw [t]
    have m := enc_more v k (8 - k) hv
    rw [show k + (8 - k) = 8 by omega] at m
    simp only [m]

theorem putE_eight (x : Nat) (h : (x : Int) < 18446744073709551616) : putE x 8 = 0 := by
  rw [putE, if_pos]
  refine ⟨by decide, by decide, ?_⟩
  have e : (256 : Int) ^ (8 : Int).toNat = 18446744073709551616 := by decide
  rw [e]; exact h
theorem fits_shl (x k : Nat) (h7 : k ≤ 7) : decide ((x : Int) < IntKind.u64.wrap (2 ^ (8 * k))) = decide (x < 256 ^ k) := by
  have hp : 256 ^ k ≤ 256 ^ 7 := Nat.pow_le_pow_right (by decide) h7
  have h7' : (256 ^ 7 : Nat) < 2 ^ 64 := by decide
  rw [pow_eq]
  generalize 256 ^ k = m at *
  rw [wraps_u64 _ (by omega) (by omega), decide_eq_decide]
  omega
set_option maxHeartbeats 400000 in
theorem wordsGrow_any (v n : Int) (w : World) (h0 : 0 ≤ v) (h64 : v < 18446744073709551616) :
    Calls Try.prog 6 #[.int .u64 v, .int .i64 n] w fun e w' => e = .returned (.bool true) ∧ Below w.heap.size w w' := by
  obtain ⟨X, hX, eX⟩ : ∃ X : Int, (0 ≤ X ∧ X < 65536) ∧ bits .and .i64 n 65535 = X := ⟨n % 65536, by omega, low16 n⟩
  obtain ⟨K, hK, eK⟩ : ∃ K : Int, (1 ≤ K ∧ K ≤ 7) ∧ 1 + X % 7 = K := ⟨1 + X % 7, by omega, rfl⟩
  obtain ⟨x, rfl⟩ := Int.eq_ofNat_of_zero_le h0
  obtain ⟨k, rfl⟩ := Int.eq_ofNat_of_zero_le (show 0 ≤ K by omega)
  go_enter Try.func6, Try.ntmps6
  go_wp2_with fail
  clear eX eK hX
  by_cases hlt : x < 256 ^ k
  · obtain ⟨A, B, C, eB, hA, hC, eC, g1, g2, g8⟩ := three x k (by omega) (by omega) (by omega) hlt
    have hsz : ¬ 9223372036854775807 < 1 + A.size := by omega
    have e8 : (8 - (k : Int)).toNat = 8 - k := by omega
    have G1 := Lib.hid g1
    have G2 := Lib.hid g2
    have G8 := Lib.hid g8
    have HL := Lib.hid hlt
    clear g1 g2 g8 hlt
    refine (G1.out _).mono ?_
    rintro e w1 ⟨rfl, hb1⟩
    go_wp2_with (first
      | (go_at_call 11; ((with_reducible refine (G2.out _).mono ?_); rintro e w2 ⟨rfl, hb2⟩; replace hb1 := bstep hb1 hb2; clear hb2))
      | (go_at_call 11; ((with_reducible refine (G8.out _).mono ?_); rintro e w2 ⟨rfl, hb2⟩; replace hb1 := bstep hb1 hb2; clear hb2))
      | (go_at_call 13; refine (fixed_any _).mono ?_; rintro e w5 ⟨rfl, hb5⟩; replace hb1 := bstep hb1 hb5; clear hb5))
    go_ret
    exact ⟨ret_bool ((fits_shl x k (by omega)).trans (decide_eq_true HL.out)), hb1⟩
  · have g1 := fun w => put_great x k true w h0 (by omega) (by omega) (by have := pow_cast k; omega)
    have g2 := fun w => put_any x ((k : Int) + 1) true w h0
    have g8 := fun w => put_any x 8 true w h0
    rw [putE_eight x h64] at g8
    have G1 := Lib.hid g1
    have G8 := Lib.hid g8
    have HL := Lib.hid hlt
    clear g1 g8 hlt
    rcases putE_cases x ((k : Int) + 1) with ⟨hp, _⟩ | ⟨hp, _⟩
    all_goals
      rw [hp] at g2
      have G2 := Lib.hid g2
      clear g2 hp
      refine (G1.out _).mono ?_
      rintro e w1 ⟨rfl, rfl⟩
      have hb1 : Below w.heap.size w w := Below.refl _ _
      go_wp2_with (first
        | (go_at_call 11; ((with_reducible refine (G2.out _).mono ?_); rintro e w2 ⟨rfl, hb2⟩; replace hb1 := bstep hb1 hb2; clear hb2))
        | (go_at_call 11; ((with_reducible refine (G8.out _).mono ?_); rintro e w2 ⟨rfl, hb2⟩; replace hb1 := bstep hb1 hb2; clear hb2))
        | (go_at_call 13; refine (fixed_any _).mono ?_; rintro e w5 ⟨rfl, hb5⟩; replace hb1 := bstep hb1 hb5; clear hb5))
      go_ret
      exact ⟨ret_bool (by rw [fits_shl x k (by omega), decide_eq_false HL.out]; rfl), hb1⟩

set_option maxRecDepth 100000 in
theorem wordsGrow_lifted (os : Os) (started : os.Started) (H : Type) (enc : TypeId × Value → H) :
    ReturnsInHanded {} Try.checked os 6 .any (Rows.wordsGrowSpec.pre6 enc Try.prog Try.f6 Rows.wordsGrowRow.domain false) (Rows.wordsGrowSpec.post enc Try.prog Try.f6 false true false false) := by
  have e : Try.f6.params.toList = [22, 3] := by rw [Try.params6]
  refine law_of_walk (C := Try.checked) (tb := 4) H enc Try.own started (by kernel_rfl) Try.func6 Try.laidOut rfl rfl Try.underlying4 ?_ ?_
    (ChangeSpec.witness6 (enc := enc) (C := Try.checked) false ⟨#[], #[.int .u64 0, .int .i64 0], []⟩ 8 (by kernel_rfl) (by kernel_rfl) (by kernel_rfl) (by kernel_rfl)) ?_
  · rw [e]
    intro t ht
    simp only [List.mem_cons, List.not_mem_nil, or_false] at ht
    rcases ht with rfl | rfl <;> exact ⟨by kernel_rfl, of_decide_eq_true (by kernel_rfl)⟩
  · intro ds hds
    rw [e] at hds
    match ds, hds with
    | [d0, d1], _ => rfl
  · intro W base args ds p hval0 hA0 hsz0
    have hval : ∀ (j : Nat) t v, Try.f6.params[j]? = some t → args[j]? = some v → Value.okWide Try.prog W .any base t v := hval0
    have hA : DataW.TrodAll enc Try.prog W 0 (fun _ => true) true Try.f6.params.toList args.toList ds p := hA0
    have hsz : (DataW.weightsEach Try.prog Try.f6.params.toList ds).all (· ≤ reachBytes) = true := hsz0
    rw [Try.params6] at hA hval hsz
    obtain ⟨v0, v1, d0, d1, p0, p1, rfl, rfl, rfl, h0, h1⟩ := trodAll_two hA
    obtain ⟨v, rfl, rfl, rfl, wv⟩ := open_int Try.underlying22 (hval 0 22 v0 rfl rfl) h0
    obtain ⟨n, rfl, rfl, rfl, _⟩ := open_int Try.underlying3 (hval 1 3 v1 rfl rfl) h1
    have hv := bounds_u64 wv
    clear hsz hsz0
    exact wordsGrow_any v n W hv.1 (by omega)

theorem wordsGrow_holds : Rows.WordsGrowSaid :=
  OpenClaim.holds_of_wide 6 Try.f6 rfl rfl rfl rfl rfl rfl rfl ⟨rfl, rfl, rfl, rfl, rfl⟩ rfl rfl rfl rfl rfl (by kernel_rfl) Try.func6 (by kernel_rfl)
    (of_decide_eq_true (by kernel_rfl)) (by unfold Func.isWrapper; first | (rw [if_pos (by decide +kernel)]; kernel_rfl) | (rw [if_neg (by decide +kernel)]; exact ⟨rfl, rfl⟩))
    (fun os started H enc _ => wordsGrow_lifted os started H enc)
end Go.Proofs.Ytlgcnaedaljpiaa

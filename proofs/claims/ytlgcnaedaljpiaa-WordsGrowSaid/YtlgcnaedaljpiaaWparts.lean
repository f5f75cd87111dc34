/-
  For every input the law WordsParts returns true, and its arguments read afterwards as before; no condition beyond the form's own reach.
-/
import Derived.Test.YtlgcnaedaljpiaaFrame
import Derived.Test.YtlgcnaedaljpiaaFixed
namespace Go.Proofs.Ytlgcnaedaljpiaa
open Go.Joins Go.ChangeShapes Go.WideShapes Go.ChangeAt Go.RowKit Go.Deep
open Go.ChangeMaps (open_string)

theorem low16 (n : Int) : bits .and .i64 n 65535 = n % 65536 := by
  have e : (BitVec.ofInt 64 65535).toNat = 2 ^ 16 - 1 := by decide
  have k : (BitVec.ofInt 64 n &&& BitVec.ofInt 64 65535).toNat = (n % ((2 ^ 64 : Nat) : Int)).toNat % 2 ^ 16 := by
    rw [BitVec.toNat_and, BitVec.toNat_ofInt, e, Nat.and_two_pow_sub_one_eq_mod]
  show IntKind.i64.wrap ((BitVec.ofInt 64 n &&& BitVec.ofInt 64 65535).toNat : Nat) = n % 65536
  rw [k, IntKind.wrap_i64]
  omega

theorem bstep {w W W' : World} (h : Below w.heap.size w W) (hb : Below W.heap.size W W') : Below w.heap.size w W' := h.trans (hb.mono h.size)
theorem dec_split (l m : List UInt8) : dec (l ++ m) true = dec l true * 256 ^ m.length + dec m true := by
  simp only [dec, if_true, List.reverse_append, val_append, List.length_reverse]
  rw [Nat.mul_comm (val l.reverse)]; omega
theorem cutl_split (s : ByteArray) (k c : Nat) (h : c ≤ k) : cutl s 0 k = cutl s 0 c ++ cutl s c (k - c) := by
  unfold cutl
  rw [List.drop_zero, show k = c + (k - c) by omega, List.take_add]
  simp
/-- The number of K bytes is that of its first C and that of the others, put together. -/
theorem parts_join (s : ByteArray) (K C : Int) (hC1 : 1 ≤ C) (hCK : C < K) (hK8 : K ≤ 8) (hs : K ≤ s.size) :
    bits .or .u64 (IntKind.u64.wrap (getV s 0 C true * 2 ^ (8 * (K - C)).toNat)) (getV s C (K - C) true) = getV s 0 K true := by
  obtain ⟨k, rfl⟩ := Int.eq_ofNat_of_zero_le (show 0 ≤ K by omega)
  obtain ⟨c, rfl⟩ := Int.eq_ofNat_of_zero_le (show 0 ≤ C by omega)
  have e1 : getV s 0 c true = (dec (cutl s 0 c) true : Int) := by rw [getV, if_pos (by omega)]; rfl
  have e2 : getV s c ((k : Int) - c) true = (dec (cutl s c (k - c)) true : Int) := by
    rw [getV, if_pos (by omega)]
    have : ((k : Int) - c).toNat = k - c := by omega
    rw [this]; rfl
  have e3 : getV s 0 k true = (dec (cutl s 0 k) true : Int) := by rw [getV, if_pos (by omega)]; rfl
  have l1 := cutl_length s 0 c (by omega)
  have l2 := cutl_length s c (k - c) (by omega)
  have d1 := dec_lt (cutl s 0 c) true
  have d2 := dec_lt (cutl s c (k - c)) true
  rw [l1] at d1
  rw [l2] at d2
  have hj := dec_split (cutl s 0 c) (cutl s c (k - c))
  rw [← cutl_split s k c (by omega), l2] at hj
  have ep : (8 * ((k : Int) - c)).toNat = 8 * (k - c) := by omega
  rw [e1, e2, e3, ep, pow_eq, hj]
  have hp1 : 256 ^ c * 256 ^ (k - c) ≤ 256 ^ 8 := by rw [← Nat.pow_add]; exact Nat.pow_le_pow_right (by decide) (by omega)
  have hp2 : 256 ^ (k - c) ≤ 256 ^ 8 := Nat.pow_le_pow_right (by decide) (by omega)
  have hp3 : dec (cutl s 0 c) true * 256 ^ (k - c) < 256 ^ c * 256 ^ (k - c) := Nat.mul_lt_mul_of_pos_right d1 (Nat.pow_pos (by decide))
  have h64 : (256 ^ 8 : Nat) = 2 ^ 64 := by decide
  have ew : (dec (cutl s 0 c) true : Int) * ((256 ^ (k - c) : Nat) : Int) = ((dec (cutl s 0 c) true * 256 ^ (k - c) : Nat) : Int) := by rw [Int.natCast_mul]
  rw [ew, wraps_u64 _ (by omega) (by omega)]
  rw [bits_join .u64 64 (by decide) wraps_u64 (8 * (k - c)) _ _ (by omega) ?_ (by omega) (by omega) ?_ (by omega)]
  · omega
  · rw [pow_eq, ← Int.natCast_emod, Nat.mul_mod_left]; rfl
  · rw [pow_eq]; omega

set_option maxHeartbeats 400000 in
theorem wordsParts_any (s : ByteArray) (n cut : Int) (w : World) (hs : s.size ≤ 140737488351232) :
    Calls Try.prog 7 #[.string s, .int .i64 n, .int .i64 cut] w fun e w' => e = .returned (.bool true) ∧ Below w.heap.size w w' := by
  have hm : s.size ≤ maxLen := by unfold maxLen; omega
  obtain ⟨X, hX, eX⟩ : ∃ X : Int, (0 ≤ X ∧ X < 65536) ∧ bits .and .i64 n 65535 = X := ⟨n % 65536, by omega, low16 n⟩
  obtain ⟨Y, hY, eY⟩ : ∃ Y : Int, (0 ≤ Y ∧ Y < 65536) ∧ bits .and .i64 cut 65535 = Y := ⟨cut % 65536, by omega, low16 cut⟩
  obtain ⟨K, hK, eK⟩ : ∃ K : Int, (2 ≤ K ∧ K ≤ 8) ∧ 2 + X % 7 = K := ⟨2 + X % 7, by omega, rfl⟩
  have hY' : 0 ≤ Y % (K - 1) := Int.emod_nonneg _ (by omega)
  have hY'' : Y % (K - 1) < K - 1 := Int.emod_lt_of_pos _ (by omega)
  obtain ⟨C, hC, eC⟩ : ∃ C : Int, (1 ≤ C ∧ C < K) ∧ 1 + Y % (K - 1) = C := ⟨1 + Y % (K - 1), by omega, rfl⟩
  clear hY' hY''
  go_enter Try.func7, Try.ntmps7
  go_wp2_with fail
  clear eX eY eK eC hX hY
  by_cases hlt : (s.size : Int) < K
  · have g := fun w => get_any s 0 K true w hm
    rw [show getE s 0 K = 10 by rw [getE, if_pos (by omega), if_neg (by omega)]] at g
    have G := Lib.hid g
    clear g
    refine (G.out _).mono ?_
    rintro e w1 ⟨rfl, hb1⟩
    go_wp2_with (first
      | (go_at_call 9; refine (get_any _ _ _ _ _ hm).mono ?_; rintro e w2 ⟨rfl, hb2⟩; replace hb1 := bstep hb1 hb2; clear hb2)
      | (go_at_call 13; refine (fixed_any _).mono ?_; rintro e w5 ⟨rfl, hb5⟩; replace hb1 := bstep hb1 hb5; clear hb5))
    go_ret
    exact ⟨rfl, hb1⟩
  · have g := fun w => get_any s 0 K true w hm
    rw [show getE s 0 K = 0 by rw [getE, if_pos (by omega), if_pos (by omega)]] at g
    have g2 := fun w => get_any s 0 C true w hm
    rw [show getE s 0 C = 0 by rw [getE, if_pos (by omega), if_pos (by omega)]] at g2
    have g3 := fun w => get_any s C (K - C) true w hm
    rw [show getE s C (K - C) = 0 by rw [getE, if_pos (by omega), if_pos (by omega)]] at g3
    have hj := parts_join s K C hC.1 hC.2 hK.2 (by omega)
    have G := Lib.hid g
    have G2 := Lib.hid g2
    have G3 := Lib.hid g3
    clear g g2 g3
    refine (G.out _).mono ?_
    rintro e w1 ⟨rfl, hb1⟩
    go_wp2_with (first
      | (go_at_call 9; ((with_reducible refine (G2.out _).mono ?_); rintro e w2 ⟨rfl, hb2⟩; replace hb1 := bstep hb1 hb2; clear hb2))
      | (go_at_call 9; ((with_reducible refine (G3.out _).mono ?_); rintro e w2 ⟨rfl, hb2⟩; replace hb1 := bstep hb1 hb2; clear hb2))
      | (go_at_call 13; refine (fixed_any _).mono ?_; rintro e w5 ⟨rfl, hb5⟩; replace hb1 := bstep hb1 hb5; clear hb5))
    go_ret
    exact ⟨rfl, hb1⟩

set_option maxRecDepth 100000 in
theorem wordsParts_lifted (os : Os) (started : os.Started) (H : Type) (enc : TypeId × Value → H) :
    ReturnsInHanded {} Try.checked os 7 .any (Rows.wordsPartsSpec.pre6 enc Try.prog Try.f7 Rows.wordsPartsRow.domain false) (Rows.wordsPartsSpec.post enc Try.prog Try.f7 false true false false) := by
  have e : Try.f7.params.toList = [9, 3, 3] := by rw [Try.params7]
  refine law_of_walk (C := Try.checked) (tb := 4) H enc Try.own started (by kernel_rfl) Try.func7 Try.laidOut rfl rfl Try.underlying4 ?_ ?_
    (ChangeSpec.witness6 (enc := enc) (C := Try.checked) false ⟨#[], #[.string ByteArray.empty, .int .i64 0, .int .i64 0], []⟩ 8 (by kernel_rfl) (by kernel_rfl) (by kernel_rfl) (by kernel_rfl)) ?_
  · rw [e]
    intro t ht
    simp only [List.mem_cons, List.not_mem_nil, or_false] at ht
    rcases ht with rfl | rfl | rfl <;> exact ⟨by kernel_rfl, of_decide_eq_true (by kernel_rfl)⟩
  · intro ds hds
    rw [e] at hds
    match ds, hds with
    | [d0, d1, d2], _ => rfl
  · intro W base args ds p hval0 hA0 hsz0
    have hval : ∀ (j : Nat) t v, Try.f7.params[j]? = some t → args[j]? = some v → Value.okWide Try.prog W .any base t v := hval0
    have hA : DataW.TrodAll enc Try.prog W 0 (fun _ => true) true Try.f7.params.toList args.toList ds p := hA0
    have hsz : (DataW.weightsEach Try.prog Try.f7.params.toList ds).all (· ≤ reachBytes) = true := hsz0
    rw [Try.params7] at hA hval hsz
    obtain ⟨v0, v1, v2, d0, d1, d2, p0, p1, p2, rfl, rfl, rfl, h0, h1, h2⟩ := trodAll_three hA
    obtain ⟨s, rfl, rfl, rfl, _⟩ := open_string Try.underlying9 (hval 0 9 v0 rfl rfl) h0
    obtain ⟨n, rfl, rfl, rfl, _⟩ := open_int Try.underlying3 (hval 1 3 v1 rfl rfl) h1
    obtain ⟨c, rfl, rfl, rfl, _⟩ := open_int Try.underlying3 (hval 2 3 v2 rfl rfl) h2
    have hs := sized_string hsz (j := 0) (t := 9) rfl rfl
    simp only [reachBytes] at hs
    exact wordsParts_any s n c W hs

theorem wordsParts_holds : Rows.WordsPartsSaid :=
  OpenClaim.holds_of_wide 7 Try.f7 rfl rfl rfl rfl rfl rfl rfl ⟨rfl, rfl, rfl, rfl, rfl⟩ rfl rfl rfl rfl rfl (by kernel_rfl) Try.func7 (by kernel_rfl)
    (of_decide_eq_true (by kernel_rfl)) (by unfold Func.isWrapper; first | (rw [if_pos (by decide +kernel)]; kernel_rfl) | (rw [if_neg (by decide +kernel)]; exact ⟨rfl, rfl⟩))
    (fun os started H enc _ => wordsParts_lifted os started H enc)
end Go.Proofs.Ytlgcnaedaljpiaa

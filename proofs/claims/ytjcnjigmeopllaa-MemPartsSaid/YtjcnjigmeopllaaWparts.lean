/-
  For every input the law MemParts returns true, and its arguments read afterwards as before; no condition beyond the form's own reach.
-/
import Derived.Test.YtjcnjigmeopllaaBack
import Derived.Test.YtjcnjigmeopllaaFrame
import Derived.Test.YtjcnjigmeopllaaWnews
namespace Go.Proofs.Ytjcnjigmeopllaa
open Go.Joins Go.ChangeShapes Go.WideShapes Go.ChangeAt Go.RowKit Go.Deep
open Go.ChangeMaps (open_string)

theorem low_and (n : Int) (j : Nat) (m : Int) (hj : j ≤ 32) (hm : (BitVec.ofInt 64 m).toNat = 2 ^ j - 1) : ∃ X : Nat, X < 2 ^ j ∧ bits .and .i64 n m = (X : Int) := by
  have h : bits .and .i64 n m = IntKind.i64.wrap (((BitVec.ofInt 64 n).toNat % 2 ^ j : Nat) : Int) := by
    show IntKind.i64.wrap (((BitVec.ofInt 64 n &&& BitVec.ofInt 64 m).toNat : Nat) : Int) = _
    rw [BitVec.toNat_and, hm, Nat.and_two_pow_sub_one_eq_mod]
  have hb : (BitVec.ofInt 64 n).toNat % 2 ^ j < 2 ^ j := Nat.mod_lt _ (Nat.two_pow_pos j)
  have hp : 2 ^ j ≤ 2 ^ 32 := Nat.pow_le_pow_right (by omega) hj
  rw [IntWalk.i64_in _ (by omega)] at h
  exact ⟨_, hb, h⟩
theorem txt_append (l m : List UInt8) : txt l ++ txt m = txt (l ++ m) := by
  apply of_list
  simp [txt]
theorem parts_join (X : List UInt8) (a k c : Nat) (hc : c ≤ k) : txt ((X.drop a).take c) ++ txt ((X.drop (a + c)).take (k - c)) = txt ((X.drop a).take k) := by
  rw [txt_append]
  congr 1
  rw [← List.drop_drop]
  have e : k = c + (k - c) := by omega
  conv => rhs; rw [e, List.take_add]
theorem two_bytes (X : List UInt8) (a : Nat) (h : a + 2 ≤ X.length) : ∃ b0 b1 : UInt8, (X.drop a).take 2 = [b0, b1] := by
  have hl : ((X.drop a).take 2).length = 2 := by simp; omega
  match hx : (X.drop a).take 2, hl with
  | [b0, b1], _ => exact ⟨b0, b1, rfl⟩
/-- the law's reads -/
theorem parts_calls (W : World) (I : ByteArray) (hI : I.size ≤ 300) (a k c : Nat) (ha : a < 256) (hk : k < 32) (hc : c ≤ k) : ∃ (X0 X : List UInt8) (S T U : ByteArray) (b0 b1 : UInt8),
    T ++ U = S ∧ T.size + U.size ≤ 31 ∧
    Hid (Calls Try.prog 9 #[.int .i64 300] W fun e w' => ∃ g, e = .returned (.tuple #[.pointer (some ⟨g, 0, none⟩), .int .i64 0]) ∧ M W g X0 0 [] w') ∧
    Hid (∀ g w1, M W g X0 0 [] w1 → Calls Try.prog 14 #[.pointer (some ⟨g, 0, none⟩), .int .i64 0, .string I] w1 fun e w' => e = .returned (.int .i64 0) ∧ ∃ L : List Acc, L.length ≤ 1 ∧ M W g X 0 L w') ∧
    Hid (∀ g w1 (L : List Acc), L.length ≤ 1 → M W g X 0 L w1 → Calls Try.prog 16 #[.pointer (some ⟨g, 0, none⟩), .int .i64 a, .int .i64 k] w1 fun e w' => e = .returned (.tuple #[.string S, .int .i64 0]) ∧ ∃ L : List Acc, L.length ≤ 2 ∧ M W g X 0 L w') ∧
    Hid (∀ g w1 (L : List Acc), L.length ≤ 2 → M W g X 0 L w1 → Calls Try.prog 16 #[.pointer (some ⟨g, 0, none⟩), .int .i64 a, .int .i64 c] w1 fun e w' => e = .returned (.tuple #[.string T, .int .i64 0]) ∧ ∃ L : List Acc, L.length ≤ 3 ∧ M W g X 0 L w') ∧
    Hid (∀ g w1 (L : List Acc), L.length ≤ 3 → M W g X 0 L w1 → Calls Try.prog 16 #[.pointer (some ⟨g, 0, none⟩), .int .i64 ((a : Int) + c), .int .i64 ((k : Int) - c)] w1 fun e w' => e = .returned (.tuple #[.string U, .int .i64 0]) ∧ ∃ L : List Acc, L.length ≤ 4 ∧ M W g X 0 L w') ∧
    Hid (∀ g w1 (L : List Acc), L.length ≤ 4 → M W g X 0 L w1 → Calls Try.prog 19 #[.pointer (some ⟨g, 0, none⟩), .int .i64 a, .int .i64 2] w1 fun e w' => e = .returned (.tuple #[.int .u64 ((b0.toNat : Int) + 256 * (b1.toNat : Int)), .int .i64 0]) ∧ ∃ L : List Acc, L.length ≤ 5 ∧ M W g X 0 L w') ∧
    Hid (∀ g w1 (L : List Acc), L.length ≤ 5 → M W g X 0 L w1 → Calls Try.prog 16 #[.pointer (some ⟨g, 0, none⟩), .int .i64 a, .int .i64 2] w1 fun e w' => e = .returned (.tuple #[.string ⟨#[b0, b1]⟩, .int .i64 0]) ∧ ∃ L : List Acc, M W g X 0 L w') := by
  have hX : (over (List.replicate 300 0) 0 I).length = 300 := by rw [over_length _ _ _ (by rw [List.length_replicate]; omega), List.length_replicate]
  obtain ⟨b0, b1, eb⟩ := two_bytes (over (List.replicate 300 0) 0 I) a (by omega)
  refine ⟨List.replicate 300 0, over (List.replicate 300 0) 0 I, _, _, _, b0, b1, parts_join (over (List.replicate 300 0) 0 I) a k c hc, ?_, new_ok 300 W (by omega) (by omega), fun g w1 h => ?_, fun g w1 L hL h => ?_, fun g w1 L hL h => ?_, fun g w1 L hL h => ?_, fun g w1 L hL h => ?_, fun g w1 L hL h => ?_⟩
  · rw [txt_size, txt_size, List.length_take, List.length_take]; omega
  · refine (one_write h 0 I (by simp) (by rw [List.length_replicate]; omega)).mono fun e w' ⟨he, hM⟩ => ⟨he, _, ?_, hM⟩
    exact note_length [] _
  · exact (one_read h a k (by omega) (by omega)).mono fun e w' ⟨he, hM⟩ => ⟨he, _, Nat.le_trans (note_length L _) (by omega), hM⟩
  · exact (one_read h a c (by omega) (by omega)).mono fun e w' ⟨he, hM⟩ => ⟨he, _, Nat.le_trans (note_length L _) (by omega), hM⟩
  · have := one_read h (a + c) (k - c) (by omega) (by omega)
    have e1 : ((a + c : Nat) : Int) = (a : Int) + c := by omega
    have e2 : ((k - c : Nat) : Int) = (k : Int) - c := by omega
    rw [e1, e2] at this
    exact this.mono fun e w' ⟨he, hM⟩ => ⟨he, _, Nat.le_trans (note_length L _) (by omega), hM⟩
  · have := one_load h a 2 (by omega) (.inr (.inl rfl)) (by omega)
    rw [eb] at this
    have e1 : ((val [b0, b1] : Nat) : Int) = (b0.toNat : Int) + 256 * (b1.toNat : Int) := by simp [val]
    rw [e1] at this
    exact this.mono fun e w' ⟨he, hM⟩ => ⟨he, _, Nat.le_trans (note_length L _) (by omega), hM⟩
  · have := one_read h a 2 (by omega) (by omega)
    rw [eb] at this
    exact this.mono fun e w' ⟨he, hM⟩ => ⟨he, _, hM⟩
theorem box4_under {w w1 : World} {o : Obj} (h : Below (w.alloc o).heap.size (w.alloc o) w1) : Below w.heap.size w w1 :=
  ((Below.refl _ _).alloc (Nat.le_refl _) _).trans (h.mono (by simp))
set_option maxRecDepth 100000 in
set_option maxHeartbeats 4000000 in
theorem parts_a (image : ByteArray) (at_ n cut : Int) (w : World) (hi : image.size ≤ 300) :
    Calls Try.prog 8 #[.agg #[.string image, .int .i64 at_, .int .i64 n, .int .i64 cut]] w fun e w' => e = .returned (.bool true) ∧ Below w.heap.size w w' := by
  obtain ⟨a, ha0, ea⟩ := low_and at_ 8 255 (by omega) (by decide)
  obtain ⟨k, hk0, ek⟩ := low_and n 5 31 (by omega) (by decide)
  obtain ⟨z, hz0, ez⟩ := low_and cut 16 65535 (by omega) (by decide)
  have ha : a < 256 := ha0
  have hk : k < 32 := hk0
  have hz : z < 65536 := hz0
  clear ha0 hk0 hz0
  obtain ⟨c, hc, ec⟩ : ∃ c : Nat, c ≤ k ∧ (z : Int).tmod ((k : Int) + 1) = (c : Int) := by
    have p1 := Int.emod_nonneg (z : Int) (show (k : Int) + 1 ≠ 0 by omega)
    have p2 := Int.emod_lt_of_pos (z : Int) (show (0 : Int) < (k : Int) + 1 by omega)
    exact ⟨((z : Int) % ((k : Int) + 1)).toNat, by omega, by rw [Int.tmod_eq_emod_of_nonneg (by omega)]; omega⟩
  have ec2 : (z : Int) % ((k : Int) + 1) = (c : Int) := by rw [← ec, Int.tmod_eq_emod_of_nonneg (by omega)]
  go_enter Try.func8, Try.ntmps8
  go_wp2_with fail
  go_quiet (fail)
  obtain ⟨W, eW⟩ : ∃ W, (w.alloc (.cells #[.string image, .int .i64 at_, .int .i64 n, .int .i64 cut] 57)).drewN nq = W := ⟨_, rfl⟩
  have hW : Below w.heap.size w W := eW ▸ below_drewN ((Below.refl _ _).alloc (Nat.le_refl _) _) nq
  rw [eW]
  clear eW
  obtain ⟨X0, X, S, T, U, b0, b1, eS, hTU, N1, V1, R1, R2, R3, L1, R4⟩ := parts_calls W image (by omega) a k c ha hk hc
  have HS := Lib.hid eS
  clear eS
  go_wp2_with (first
    | (go_at_call 9; ((with_reducible refine N1.out.mono ?_); rintro e w1 ⟨g, rfl, hM⟩))
    | (go_at_call 14; ((with_reducible refine (V1.out _ _ hM).mono ?_); rintro e w2 ⟨rfl, La, hLa, hM1⟩; clear hM))
    | (go_at_call 16; ((with_reducible refine (R1.out _ _ _ hLa hM1).mono ?_); rintro e w3 ⟨rfl, Lb, hLb, hM2⟩; clear hM1 hLa))
    | (go_at_call 16; ((with_reducible refine (R2.out _ _ _ hLb hM2).mono ?_); rintro e w4 ⟨rfl, Lc, hLc, hM3⟩; clear hM2 hLb))
    | (go_at_call 16; ((with_reducible refine (R3.out _ _ _ hLc hM3).mono ?_); rintro e w5 ⟨rfl, Ld, hLd, hM4⟩; clear hM3 hLc))
    | (go_at_call 19; ((with_reducible refine (L1.out _ _ _ hLd hM4).mono ?_); rintro e w6 ⟨rfl, Le, hLe, hM5⟩; clear hM4 hLd))
    | (go_at_call 16; ((with_reducible refine (R4.out _ _ _ hLe hM5).mono ?_); rintro e w7 ⟨rfl, Lf, hM6⟩; clear hM5 hLe)))
  have eS := HS.out
  have q1 : ¬ 9223372036854775807 < T.size + U.size := by omega
  have p0 : b0.toNat < 256 := b0.toNat_lt
  have p1 : b1.toNat < 256 := b1.toNat_lt
  have r0 : (⟨#[b0, b1]⟩ : ByteArray)[0]'(show 0 < 2 by omega) = b0 := rfl
  have r1 : (⟨#[b0, b1]⟩ : ByteArray)[1]'(show 1 < 2 by omega) = b1 := rfl
  have q2 : IntKind.u64.wrap (b0.toNat : Int) = (b0.toNat : Int) := IntWalk.u64_in _ (by omega)
  have q3 : IntKind.u64.wrap (b1.toNat : Int) = (b1.toNat : Int) := IntWalk.u64_in _ (by omega)
  have q4 : IntKind.u64.wrap (256 * (b1.toNat : Int)) = 256 * (b1.toNat : Int) := IntWalk.u64_in _ (by omega)
  have q5 : IntKind.u64.wrap ((b0.toNat : Int) + 256 * (b1.toNat : Int)) = (b0.toNat : Int) + 256 * (b1.toNat : Int) := IntWalk.u64_in _ (by omega)
  have hB := bl hW hM6.under
  clear hM6 hW
  refine region_class (Below w.heap.size w) (by kernel_rfl) (by kernel_rfl) hB.drew ?_
  repeat (first
      | go_big_quiet_skip
      | (go_big_quiet_want; go_big_quiet_op; first
        | go_big_quiet_on
        | (refine ⟨_, fun _ _ => rfl, ?_⟩; go_big_quiet_on)
        | (apply Exists.intro; refine ⟨?_, ?_⟩; · (intro wq hC; go_at_call 11; exact (fixed_any _).mono fun e w' h => ⟨h.1, bl hC h.2⟩)
           go_big_quiet_on)))
  refine wpQuiet_nil ?_
  clear q2 q3 q4 q5 eS r0 r1
  intro w8 hB8
  go_wp2
  go_ret
  exact ⟨rfl, hB8⟩
set_option maxRecDepth 100000 in
set_option maxHeartbeats 4000000 in
theorem parts_b (image : ByteArray) (at_ n cut : Int) (w : World) (hi0 : 300 < image.size) (hi : image.size ≤ 140737488351232) :
    Calls Try.prog 8 #[.agg #[.string image, .int .i64 at_, .int .i64 n, .int .i64 cut]] w fun e w' => e = .returned (.bool true) ∧ Below w.heap.size w w' := by
  obtain ⟨a, ha0, ea⟩ := low_and at_ 8 255 (by omega) (by decide)
  obtain ⟨k, hk0, ek⟩ := low_and n 5 31 (by omega) (by decide)
  obtain ⟨z, hz0, ez⟩ := low_and cut 16 65535 (by omega) (by decide)
  have ha : a < 256 := ha0
  have hk : k < 32 := hk0
  have hz : z < 65536 := hz0
  clear ha0 hk0 hz0
  obtain ⟨c, hc, ec⟩ : ∃ c : Nat, c ≤ k ∧ (z : Int).tmod ((k : Int) + 1) = (c : Int) := by
    have p1 := Int.emod_nonneg (z : Int) (show (k : Int) + 1 ≠ 0 by omega)
    have p2 := Int.emod_lt_of_pos (z : Int) (show (0 : Int) < (k : Int) + 1 by omega)
    exact ⟨((z : Int) % ((k : Int) + 1)).toNat, by omega, by rw [Int.tmod_eq_emod_of_nonneg (by omega)]; omega⟩
  have ec2 : (z : Int) % ((k : Int) + 1) = (c : Int) := by rw [← ec, Int.tmod_eq_emod_of_nonneg (by omega)]
  obtain ⟨I, hI, eI⟩ : ∃ I : ByteArray, I.size = 300 ∧ image.extract 0 300 = I := ⟨_, by simp; omega, rfl⟩
  go_enter Try.func8, Try.ntmps8
  go_wp2_with fail
  go_quiet (fail)
  obtain ⟨W, eW⟩ : ∃ W, (w.alloc (.cells #[.string image, .int .i64 at_, .int .i64 n, .int .i64 cut] 57)).drewN nq = W := ⟨_, rfl⟩
  have hW : Below w.heap.size w W := eW ▸ below_drewN ((Below.refl _ _).alloc (Nat.le_refl _) _) nq
  rw [eW]
  clear eW
  obtain ⟨X0, X, S, T, U, b0, b1, eS, hTU, N1, V1, R1, R2, R3, L1, R4⟩ := parts_calls W I (by omega) a k c ha hk hc
  have HS := Lib.hid eS
  clear eS
  go_wp2_with (first
    | (go_at_call 9; ((with_reducible refine N1.out.mono ?_); rintro e w1 ⟨g, rfl, hM⟩))
    | (go_at_call 14; ((with_reducible refine (V1.out _ _ hM).mono ?_); rintro e w2 ⟨rfl, La, hLa, hM1⟩; clear hM))
    | (go_at_call 16; ((with_reducible refine (R1.out _ _ _ hLa hM1).mono ?_); rintro e w3 ⟨rfl, Lb, hLb, hM2⟩; clear hM1 hLa))
    | (go_at_call 16; ((with_reducible refine (R2.out _ _ _ hLb hM2).mono ?_); rintro e w4 ⟨rfl, Lc, hLc, hM3⟩; clear hM2 hLb))
    | (go_at_call 16; ((with_reducible refine (R3.out _ _ _ hLc hM3).mono ?_); rintro e w5 ⟨rfl, Ld, hLd, hM4⟩; clear hM3 hLc))
    | (go_at_call 19; ((with_reducible refine (L1.out _ _ _ hLd hM4).mono ?_); rintro e w6 ⟨rfl, Le, hLe, hM5⟩; clear hM4 hLd))
    | (go_at_call 16; ((with_reducible refine (R4.out _ _ _ hLe hM5).mono ?_); rintro e w7 ⟨rfl, Lf, hM6⟩; clear hM5 hLe)))
  have eS := HS.out
  have q1 : ¬ 9223372036854775807 < T.size + U.size := by omega
  have p0 : b0.toNat < 256 := b0.toNat_lt
  have p1 : b1.toNat < 256 := b1.toNat_lt
  have r0 : (⟨#[b0, b1]⟩ : ByteArray)[0]'(show 0 < 2 by omega) = b0 := rfl
  have r1 : (⟨#[b0, b1]⟩ : ByteArray)[1]'(show 1 < 2 by omega) = b1 := rfl
  have q2 : IntKind.u64.wrap (b0.toNat : Int) = (b0.toNat : Int) := IntWalk.u64_in _ (by omega)
  have q3 : IntKind.u64.wrap (b1.toNat : Int) = (b1.toNat : Int) := IntWalk.u64_in _ (by omega)
  have q4 : IntKind.u64.wrap (256 * (b1.toNat : Int)) = 256 * (b1.toNat : Int) := IntWalk.u64_in _ (by omega)
  have q5 : IntKind.u64.wrap ((b0.toNat : Int) + 256 * (b1.toNat : Int)) = (b0.toNat : Int) + 256 * (b1.toNat : Int) := IntWalk.u64_in _ (by omega)
  have hB := bl hW hM6.under
  clear hM6 hW
  refine region_class (Below w.heap.size w) (by kernel_rfl) (by kernel_rfl) hB.drew ?_
  repeat (first
      | go_big_quiet_skip
      | (go_big_quiet_want; go_big_quiet_op; first
        | go_big_quiet_on
        | (refine ⟨_, fun _ _ => rfl, ?_⟩; go_big_quiet_on)
        | (apply Exists.intro; refine ⟨?_, ?_⟩; · (intro wq hC; go_at_call 11; exact (fixed_any _).mono fun e w' h => ⟨h.1, bl hC h.2⟩)
           go_big_quiet_on)))
  refine wpQuiet_nil ?_
  clear q2 q3 q4 q5 eS r0 r1
  intro w8 hB8
  go_wp2
  go_ret
  exact ⟨rfl, hB8⟩
theorem memParts_any (image : ByteArray) (at_ n cut : Int) (w : World) (hi : image.size ≤ 140737488351232) :
    Calls Try.prog 8 #[.agg #[.string image, .int .i64 at_, .int .i64 n, .int .i64 cut]] w fun e w' => e = .returned (.bool true) ∧ Below w.heap.size w w' := by
  by_cases h : image.size ≤ 300
  · exact parts_a image at_ n cut w h
  · exact parts_b image at_ n cut w (by omega) hi

set_option maxRecDepth 100000 in
theorem memParts_lifted (os : Os) (started : os.Started) (H : Type) (enc : TypeId × Value → H) :
    ReturnsInHanded {} Try.checked os 8 .any (Rows.memPartsSpec.pre6 enc Try.prog Try.f8 Rows.memPartsRow.domain false) (Rows.memPartsSpec.post enc Try.prog Try.f8 false true false false) := by
  have e : Try.f8.params.toList = [57] := by rw [Try.params8]
  refine law_of_walk (C := Try.checked) (tb := 4) H enc Try.own started (by kernel_rfl) Try.func8 Try.laidOut rfl rfl Try.underlying4 ?_ ?_
    (ChangeSpec.witness6 (enc := enc) (C := Try.checked) false ⟨#[], #[.agg #[.string ByteArray.empty, .int .i64 0, .int .i64 0, .int .i64 0]], []⟩ 8 (by kernel_rfl) (by kernel_rfl) (by kernel_rfl) (by kernel_rfl)) ?_
  · rw [e]
    intro t ht
    simp only [List.mem_cons, List.not_mem_nil, or_false] at ht
    rcases ht with rfl <;> exact ⟨by kernel_rfl, of_decide_eq_true (by kernel_rfl)⟩
  · intro ds hds
    rw [e] at hds
    match ds, hds with
    | [d0], _ => rfl
  · intro W base args ds p hval0 hA0 hsz0
    have hval : ∀ (j : Nat) t v, Try.f8.params[j]? = some t → args[j]? = some v → Value.okWide Try.prog W .any base t v := hval0
    have hA : DataW.TrodAll enc Try.prog W 0 (fun _ => true) true Try.f8.params.toList args.toList ds p := hA0
    have hsz : (DataW.weightsEach Try.prog Try.f8.params.toList ds).all (· ≤ reachBytes) = true := hsz0
    rw [Try.params8] at hA hval hsz
    obtain ⟨v0, d0, rfl, rfl, h0⟩ := trodAll_one hA
    obtain ⟨s, a, n, c, rfl, rfl⟩ := open_cut (hval 0 57 v0 rfl rfl) h0
    have hm : s.data.toList.length ∈ DataW.weightsEach Try.prog [57] [DataW.agg [(DataW.lit (.string s.data.toList) : DataW H), .lit (.int .i64 a), .lit (.int .i64 n), .lit (.int .i64 c)]] := by
      refine DataW.weights_mem_each (j := 0) (t := 57) rfl rfl _ ?_
      simp only [DataW.weights, Try.underlying57]
      exact DataW.weights_mem_each (j := 0) (t := 9) rfl rfl _ (by simp [DataW.weights])
    have hlen : s.data.toList.length ≤ reachBytes := of_decide_eq_true (List.all_eq_true.1 hsz _ hm)
    simp only [reachBytes] at hlen
    exact memParts_any s a n c W hlen

theorem memParts_holds : Rows.MemPartsSaid :=
  OpenClaim.holds_of_wide 8 Try.f8 rfl rfl rfl rfl rfl rfl rfl ⟨rfl, rfl, rfl, rfl, rfl⟩ rfl rfl rfl rfl rfl (by kernel_rfl) Try.func8 (by kernel_rfl)
    (of_decide_eq_true (by kernel_rfl)) (by unfold Func.isWrapper; first | (rw [if_pos (by decide +kernel)]; kernel_rfl) | (rw [if_neg (by decide +kernel)]; exact ⟨rfl, rfl⟩))
    (fun os started H enc _ => memParts_lifted os started H enc)
end Go.Proofs.Ytjcnjigmeopllaa

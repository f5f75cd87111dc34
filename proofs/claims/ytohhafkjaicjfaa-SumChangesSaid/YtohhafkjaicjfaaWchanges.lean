/-
  For every input the law SumChanges returns true, and its arguments read afterwards as before; no condition beyond the form's own reach.
-/
import Derived.Test.YtohhafkjaicjfaaLaw
import Derived.Test.YtohhafkjaicjfaaTwo
import Derived.BigRegion
namespace Go.Proofs.Ytohhafkjaicjfaa
open Go.Joins Go.ChangeShapes Go.WideShapes Go.ChangeAt Go.RowKit Go.Deep
open Go.ChangeMaps (open_string)


theorem low16 (n : Int) : ∃ X : Int, 0 ≤ X ∧ X < 65536 ∧ bits .and .i64 n 65535 = X := by
  have e : (BitVec.ofInt 64 65535).toNat = 2 ^ 16 - 1 := by decide
  have h : bits .and .i64 n 65535 = IntKind.i64.wrap (((BitVec.ofInt 64 n).toNat % 2 ^ 16 : Nat) : Int) := by
    show IntKind.i64.wrap (((BitVec.ofInt 64 n &&& BitVec.ofInt 64 65535).toNat : Nat) : Int) = _
    rw [BitVec.toNat_and, e, Nat.and_two_pow_sub_one_eq_mod]
  have hb : (BitVec.ofInt 64 n).toNat % 2 ^ 16 < 65536 := Nat.mod_lt _ (by decide)
  rw [IntWalk.i64_in _ (by omega)] at h
  exact ⟨_, by omega, by omega, h⟩
theorem upd_change (W O n : Int) (o1 : 0 ≤ O) (o2 : O ≤ 65535) (n1 : 0 ≤ n) (n2 : n ≤ 65535) (hW : O ≤ W) :
    upd (65535 - canon W) O n = 65535 - canon (W - O + n) ∨ (upd (65535 - canon W) O n ≠ 65535 - canon (W - O + n) ∧ upd (65535 - canon W) O n % 65535 = 0 ∧ (65535 - canon (W - O + n)) % 65535 = 0) := by
  unfold upd ones canon
  split <;> split <;> split <;> split <;> omega
/-- A string of which a word is another one. -/
theorem change_wt (S T : ByteArray) (j : Nat) (h : j * 2 + 1 < S.size) (hT : T.size = 2) :
    wt true (S.extract 0 (j * 2) ++ T ++ S.extract (j * 2 + 2) S.size).data.toList = wt true S.data.toList - (256 * (S[j * 2].toNat : Int) + S[j * 2 + 1].toNat) + wt true T.data.toList ∧
      256 * (S[j * 2].toNat : Int) + S[j * 2 + 1].toNat ≤ wt true S.data.toList := by
  have hl : S.data.toList.length = S.size := rfl
  have e : S.data.toList = S.data.toList.take (j * 2) ++ (S[j * 2] :: S[j * 2 + 1] :: S.data.toList.drop (j * 2 + 2)) := by
    conv => lhs; rw [← List.take_append_drop (j * 2) S.data.toList]
    rw [List.drop_eq_getElem_cons (by omega), List.drop_eq_getElem_cons (by omega)]
    rfl
  have s1 : (S.extract 0 (j * 2)).size = j * 2 := cut_size S _ (by omega)
  have hp : (S.data.toList.take (j * 2)).length = j * 2 := by rw [List.length_take]; omega
  have w1 := congrArg (wt true) e
  rw [wt_append, hp, if_pos (by omega)] at w1
  simp only [wt, Bool.not_true, Bool.not_false, if_true] at w1
  have n1 := wt_nonneg true (S.data.toList.take (j * 2))
  have n2 := wt_nonneg true (S.data.toList.drop (j * 2 + 2))
  rw [wt_cat _ _ (by rw [cat_size, s1, hT]; omega), wt_cat _ _ (by rw [s1]; omega), cut_list, rest_list]
  simp at w1
  constructor <;> omega
/-- What the law asks of its calls, of a string of whole words. -/
theorem change_calls (S : ByteArray) (j : Nat) (n : Int) (hS : S.size ≤ 1000) (he : S.size % 2 = 0) (h : j * 2 + 1 < S.size) (h1 : 0 ≤ n) (h2 : n ≤ 65535) :
    ∃ (T V : ByteArray) (O M a b : Int), 0 ≤ O ∧ O ≤ 65535 ∧ 0 ≤ M ∧ M ≤ 65535 ∧ 0 ≤ a ∧ a ≤ 65535 ∧ 0 ≤ b ∧ b ≤ 65535 ∧ T.size = 2 ∧ strOfNums [n / 256, n % 256] = T ∧
      S.extract 0 (j * 2) ++ T ++ S.extract (j * 2 + 2) S.size = V ∧ V.size ≤ 1000 ∧ bits .or .u16 ((S[j * 2].toNat : Int) * 256) (S[j * 2 + 1].toNat : Int) = O ∧
      (∀ w, Calls Try.prog 13 #[.string S] w fun e w' => e = .returned (.int .u16 M) ∧ Below w.heap.size w w') ∧
      (∀ w, Calls Try.prog 16 #[.int .u16 M, .int .u16 O, .int .u16 n] w fun e w' => e = .returned (.int .u16 a) ∧ Below w.heap.size w w') ∧
      (∀ w, Calls Try.prog 13 #[.string V] w fun e w' => e = .returned (.int .u16 b) ∧ Below w.heap.size w w') ∧
      (a = b ∨ (a ≠ b ∧ a % 65535 = 0 ∧ b % 65535 = 0)) := by
  have x1 : S[j * 2].toNat < 256 := S[j * 2].toNat_lt
  have x2 : S[j * 2 + 1].toNat < 256 := S[j * 2 + 1].toNat_lt
  have hT := word2_size n
  have hW := word2_wt n h1 h2
  obtain ⟨c1, c2⟩ := change_wt S (word2 n) j h hT
  have rS := onS_range S 0 (by omega) (by omega)
  have hVs : (S.extract 0 (j * 2) ++ word2 n ++ S.extract (j * 2 + 2) S.size).size ≤ 1000 := by
    rw [cat_size, cat_size, cut_size S _ (by omega), hT]; simp; omega
  have hV : ∃ V : ByteArray, S.extract 0 (j * 2) ++ word2 n ++ S.extract (j * 2 + 2) S.size = V := ⟨_, rfl⟩
  obtain ⟨V, eV⟩ := hV
  rw [eV] at c1 hVs
  have rV := onS_range V 0 (by omega) (by omega)
  have uc := upd_change (wt true S.data.toList) (256 * (S[j * 2].toNat : Int) + S[j * 2 + 1].toNat) n (by omega) (by omega) h1 h2 c2
  rw [← hW, ← c1, hW] at uc
  have oS : onS 0 S = canon (wt true S.data.toList) := by rw [onS_eq _ _ (by omega) (by omega), Int.zero_add]
  have oV : onS 0 V = canon (wt true V.data.toList) := by rw [onS_eq _ _ (by omega) (by omega), Int.zero_add]
  rw [← oS, ← oV] at uc
  have ru : 0 ≤ upd (65535 - onS 0 S) (256 * (S[j * 2].toNat : Int) + S[j * 2 + 1].toNat) n ∧ upd (65535 - onS 0 S) (256 * (S[j * 2].toNat : Int) + S[j * 2 + 1].toNat) n ≤ 65535 := by
    unfold upd ones; split <;> split <;> omega
  refine ⟨word2 n, V, 256 * (S[j * 2].toNat : Int) + S[j * 2 + 1].toNat, 65535 - onS 0 S, upd (65535 - onS 0 S) (256 * (S[j * 2].toNat : Int) + S[j * 2 + 1].toNat) n, 65535 - onS 0 V,
    by omega, by omega, by omega, by omega, ru.1, ru.2, by omega, by omega, hT, rfl, eV, hVs, ?_, fun w => sum_any S w (by unfold maxLen; omega), fun w => upd_any _ _ _ w (by omega) (by omega) (by omega) (by omega) h1 h2, fun w => sum_any V w (by unfold maxLen; omega), uc⟩
  rw [bits_join .u16 16 (by decide) wraps_u16 8 _ _ (by omega) (by omega) (by omega) (by omega) (by omega) (by omega)]; omega

set_option maxHeartbeats 1600000 in
theorem sumChanges_any (s : ByteArray) (m n : Int) (w : World) (hs : s.size ≤ 140737488351232) (h1 : 0 ≤ n) (h2 : n ≤ 65535) :
    Calls Try.prog 7 #[.string s, .int .i64 m, .int .u16 n] w fun e w' => e = .returned (.bool true) ∧ Below w.heap.size w w' := by
  obtain ⟨X, hX1, hX2, eX⟩ := low16 m
  by_cases hk : s.size ≤ 1000
  · obtain ⟨S, hS, he, eS⟩ : ∃ S : ByteArray, S.size ≤ 1000 ∧ S.size % 2 = 0 ∧ s.extract 0 (s.size / 2 * 2) = S := ⟨_, by rw [cut_size s _ (by omega)]; omega, by rw [cut_size s _ (by omega)]; omega, rfl⟩
    have hB := Below.refl w.heap.size w
    by_cases h0 : S.size = 0
    · go_enter Try.func7, Try.ntmps7
      go_wp2_with (go_at_call 10; refine (fixed_any _).mono ?_; rintro e w9 ⟨rfl, hq⟩; (first | replace hB := bl hB hq | replace hB := bl (bla hB _) hq); clear hq)
      go_ret
      exact ⟨rfl, hB⟩
    · obtain ⟨j, hj, ej⟩ : ∃ j : Nat, j * 2 + 1 < S.size ∧ X.tmod ((S.size : Int) / 2) = j := by
        have p : 0 < (S.size : Int) / 2 := by omega
        have p1 := Int.emod_nonneg X (show (S.size : Int) / 2 ≠ 0 by omega)
        have p2 := Int.emod_lt_of_pos X p
        exact ⟨(X % ((S.size : Int) / 2)).toNat, by omega, by rw [Int.tmod_eq_emod_of_nonneg hX1]; omega⟩
      obtain ⟨T, V, O, M, a, b, o1, o2, m1, m2, a1, a2, b1, b2, hT, eT, eV, hV, eO, g1, g2, g3, hab⟩ := change_calls S j n hS he hj h1 h2
      have hcv : ∀ W : World, (convert 32 9 (.slice (some ⟨W.heap.size, 0, none⟩) 2 2)).run Try.prog (W.alloc (.cells #[.int .u8 (n / 256), .int .u8 (n % 256)] 5)).drew = .ok (.string T) (W.alloc (.cells #[.int .u8 (n / 256), .int .u8 (n % 256)] 5)).drew := fun W => by rw [two_bytes_drew, eT]
      have G1 := Lib.hid g1
      have G2 := Lib.hid g2
      have G3 := Lib.hid g3
      have HV := Lib.hid eV
      have HO := Lib.hid eO
      have HAB := Lib.hid hab
      clear g1 g2 g3 eT eV eO hab
      have hq0 : ¬ (S.size : Int) / 2 = 0 := by omega
      go_enter Try.func7, Try.ntmps7
      go_wp2_with fail
      have x1 : S[j * 2].toNat < 256 := S[j * 2].toNat_lt
      have x2 : S[j * 2 + 1].toNat < 256 := S[j * 2 + 1].toNat_lt
      have e1 : j * 2 < S.size := by omega
      have e3 : ((j : Int) * 2).toNat = j * 2 := by omega
      have e4 : ((j : Int) * 2 + 1).toNat = j * 2 + 1 := by omega
      have e6 : IntKind.i64.wrap ((j : Int) * 2 + 1) = (j : Int) * 2 + 1 := IntWalk.i64_in _ (by omega)
      have e7 : (0 : Int) ≤ (j : Int) * 2 := by omega
      have e8 : (j : Int) * 2 < S.size := by omega
      have e9 : (0 : Int) ≤ (j : Int) * 2 + 1 := by omega
      have e10 : (j : Int) * 2 + 1 < S.size := by omega
      have y1 : IntKind.u16.wrap (S[j * 2].toNat : Int) = S[j * 2].toNat := wraps_u16 _ (by omega) (by omega)
      have y2 : IntKind.u16.wrap (S[j * 2 + 1].toNat : Int) = S[j * 2 + 1].toNat := wraps_u16 _ (by omega) (by omega)
      have y3 : IntKind.u16.wrap ((S[j * 2].toNat : Int) * 256) = (S[j * 2].toNat : Int) * 256 := wraps_u16 _ (by omega) (by omega)
      have eO := HO.out
      go_quiet (fail)
      clear eO y1 y2 y3 e6
      try simp only [eS]
      replace hB := below_drewN hB nq
      generalize w.drewN nq = W at *
      have z1 : ((j : Int) * 2 + 2).toNat = j * 2 + 2 := by omega
      have z2 : (j : Int) * 2 + 2 ≤ S.size := by omega
      have z3 : IntKind.i64.wrap ((j : Int) * 2 + 2) = (j : Int) * 2 + 2 := IntWalk.i64_in _ (by omega)
      have z4 : (0 : Int) ≤ (j : Int) * 2 + 2 := by omega
      have z5 : (j : Int) * 2 ≤ S.size := by omega
      go_wp2_with fail
      go_region
      rw [HV.out]
      replace hB := (bla hB (.cells #[.int .u8 (n / 256), .int .u8 (n % 256)] 5)).drew
      generalize (W.alloc (.cells #[.int .u8 (n / 256), .int .u8 (n % 256)] 5)).drew = W2 at *
      clear hcv z1 z2 z3 z4 z5
      rcases HAB.out with rfl | ⟨hne, ha, hb⟩
      · go_wp2_with (first
          | (go_at_call 10; refine (fixed_any _).mono ?_; rintro e w9 ⟨rfl, hq⟩; (first | replace hB := bl hB hq | replace hB := bl (bla hB _) hq); clear hq)
          | (go_at_call 13; ((with_reducible refine (G1.out _).mono ?_); rintro e w1 ⟨rfl, hq⟩; (first | replace hB := bl hB hq | replace hB := bl (bla hB _) hq); clear hq))
          | (go_at_call 16; ((with_reducible refine (G2.out _).mono ?_); rintro e w1 ⟨rfl, hq⟩; (first | replace hB := bl hB hq | replace hB := bl (bla hB _) hq); clear hq))
          | (go_at_call 13; ((with_reducible refine (G3.out _).mono ?_); rintro e w1 ⟨rfl, hq⟩; (first | replace hB := bl hB hq | replace hB := bl (bla hB _) hq); clear hq)))
        go_ret
        exact ⟨rfl, hB⟩
      · have ha' : a.tmod 65535 = 0 := by rw [Int.tmod_eq_emod_of_nonneg a1]; exact ha
        have hb' : b.tmod 65535 = 0 := by rw [Int.tmod_eq_emod_of_nonneg b1]; exact hb
        go_wp2_with (first
          | (go_at_call 10; refine (fixed_any _).mono ?_; rintro e w9 ⟨rfl, hq⟩; (first | replace hB := bl hB hq | replace hB := bl (bla hB _) hq); clear hq)
          | (go_at_call 13; ((with_reducible refine (G1.out _).mono ?_); rintro e w1 ⟨rfl, hq⟩; (first | replace hB := bl hB hq | replace hB := bl (bla hB _) hq); clear hq))
          | (go_at_call 16; ((with_reducible refine (G2.out _).mono ?_); rintro e w1 ⟨rfl, hq⟩; (first | replace hB := bl hB hq | replace hB := bl (bla hB _) hq); clear hq))
          | (go_at_call 13; ((with_reducible refine (G3.out _).mono ?_); rintro e w1 ⟨rfl, hq⟩; (first | replace hB := bl hB hq | replace hB := bl (bla hB _) hq); clear hq)))
        go_ret
        exact ⟨rfl, hB⟩
  · obtain ⟨S, hS, he, eS⟩ : ∃ S : ByteArray, S.size ≤ 1000 ∧ S.size % 2 = 0 ∧ s.extract 0 1000 = S := ⟨_, by rw [cut_size s _ (by omega)]; omega, by rw [cut_size s _ (by omega)], rfl⟩
    have hB := Below.refl w.heap.size w
    by_cases h0 : S.size = 0
    · go_enter Try.func7, Try.ntmps7
      go_wp2_with (go_at_call 10; refine (fixed_any _).mono ?_; rintro e w9 ⟨rfl, hq⟩; (first | replace hB := bl hB hq | replace hB := bl (bla hB _) hq); clear hq)
      go_ret
      exact ⟨rfl, hB⟩
    · obtain ⟨j, hj, ej⟩ : ∃ j : Nat, j * 2 + 1 < S.size ∧ X.tmod ((S.size : Int) / 2) = j := by
        have p : 0 < (S.size : Int) / 2 := by omega
        have p1 := Int.emod_nonneg X (show (S.size : Int) / 2 ≠ 0 by omega)
        have p2 := Int.emod_lt_of_pos X p
        exact ⟨(X % ((S.size : Int) / 2)).toNat, by omega, by rw [Int.tmod_eq_emod_of_nonneg hX1]; omega⟩
      obtain ⟨T, V, O, M, a, b, o1, o2, m1, m2, a1, a2, b1, b2, hT, eT, eV, hV, eO, g1, g2, g3, hab⟩ := change_calls S j n hS he hj h1 h2
      have hcv : ∀ W : World, (convert 32 9 (.slice (some ⟨W.heap.size, 0, none⟩) 2 2)).run Try.prog (W.alloc (.cells #[.int .u8 (n / 256), .int .u8 (n % 256)] 5)).drew = .ok (.string T) (W.alloc (.cells #[.int .u8 (n / 256), .int .u8 (n % 256)] 5)).drew := fun W => by rw [two_bytes_drew, eT]
      have G1 := Lib.hid g1
      have G2 := Lib.hid g2
      have G3 := Lib.hid g3
      have HV := Lib.hid eV
      have HO := Lib.hid eO
      have HAB := Lib.hid hab
      clear g1 g2 g3 eT eV eO hab
      have hq0 : ¬ (S.size : Int) / 2 = 0 := by omega
      go_enter Try.func7, Try.ntmps7
      go_wp2_with fail
      have x1 : S[j * 2].toNat < 256 := S[j * 2].toNat_lt
      have x2 : S[j * 2 + 1].toNat < 256 := S[j * 2 + 1].toNat_lt
      have e1 : j * 2 < S.size := by omega
      have e3 : ((j : Int) * 2).toNat = j * 2 := by omega
      have e4 : ((j : Int) * 2 + 1).toNat = j * 2 + 1 := by omega
      have e6 : IntKind.i64.wrap ((j : Int) * 2 + 1) = (j : Int) * 2 + 1 := IntWalk.i64_in _ (by omega)
      have e7 : (0 : Int) ≤ (j : Int) * 2 := by omega
      have e8 : (j : Int) * 2 < S.size := by omega
      have e9 : (0 : Int) ≤ (j : Int) * 2 + 1 := by omega
      have e10 : (j : Int) * 2 + 1 < S.size := by omega
      have y1 : IntKind.u16.wrap (S[j * 2].toNat : Int) = S[j * 2].toNat := wraps_u16 _ (by omega) (by omega)
      have y2 : IntKind.u16.wrap (S[j * 2 + 1].toNat : Int) = S[j * 2 + 1].toNat := wraps_u16 _ (by omega) (by omega)
      have y3 : IntKind.u16.wrap ((S[j * 2].toNat : Int) * 256) = (S[j * 2].toNat : Int) * 256 := wraps_u16 _ (by omega) (by omega)
      have eO := HO.out
      go_quiet (fail)
      clear eO y1 y2 y3 e6
      try simp only [eS]
      replace hB := below_drewN hB nq
      generalize w.drewN nq = W at *
      have z1 : ((j : Int) * 2 + 2).toNat = j * 2 + 2 := by omega
      have z2 : (j : Int) * 2 + 2 ≤ S.size := by omega
      have z3 : IntKind.i64.wrap ((j : Int) * 2 + 2) = (j : Int) * 2 + 2 := IntWalk.i64_in _ (by omega)
      have z4 : (0 : Int) ≤ (j : Int) * 2 + 2 := by omega
      have z5 : (j : Int) * 2 ≤ S.size := by omega
      go_wp2_with fail
      go_region
      rw [HV.out]
      replace hB := (bla hB (.cells #[.int .u8 (n / 256), .int .u8 (n % 256)] 5)).drew
      generalize (W.alloc (.cells #[.int .u8 (n / 256), .int .u8 (n % 256)] 5)).drew = W2 at *
      clear hcv z1 z2 z3 z4 z5
      rcases HAB.out with rfl | ⟨hne, ha, hb⟩
      · go_wp2_with (first
          | (go_at_call 10; refine (fixed_any _).mono ?_; rintro e w9 ⟨rfl, hq⟩; (first | replace hB := bl hB hq | replace hB := bl (bla hB _) hq); clear hq)
          | (go_at_call 13; ((with_reducible refine (G1.out _).mono ?_); rintro e w1 ⟨rfl, hq⟩; (first | replace hB := bl hB hq | replace hB := bl (bla hB _) hq); clear hq))
          | (go_at_call 16; ((with_reducible refine (G2.out _).mono ?_); rintro e w1 ⟨rfl, hq⟩; (first | replace hB := bl hB hq | replace hB := bl (bla hB _) hq); clear hq))
          | (go_at_call 13; ((with_reducible refine (G3.out _).mono ?_); rintro e w1 ⟨rfl, hq⟩; (first | replace hB := bl hB hq | replace hB := bl (bla hB _) hq); clear hq)))
        go_ret
        exact ⟨rfl, hB⟩
      · have ha' : a.tmod 65535 = 0 := by rw [Int.tmod_eq_emod_of_nonneg a1]; exact ha
        have hb' : b.tmod 65535 = 0 := by rw [Int.tmod_eq_emod_of_nonneg b1]; exact hb
        go_wp2_with (first
          | (go_at_call 10; refine (fixed_any _).mono ?_; rintro e w9 ⟨rfl, hq⟩; (first | replace hB := bl hB hq | replace hB := bl (bla hB _) hq); clear hq)
          | (go_at_call 13; ((with_reducible refine (G1.out _).mono ?_); rintro e w1 ⟨rfl, hq⟩; (first | replace hB := bl hB hq | replace hB := bl (bla hB _) hq); clear hq))
          | (go_at_call 16; ((with_reducible refine (G2.out _).mono ?_); rintro e w1 ⟨rfl, hq⟩; (first | replace hB := bl hB hq | replace hB := bl (bla hB _) hq); clear hq))
          | (go_at_call 13; ((with_reducible refine (G3.out _).mono ?_); rintro e w1 ⟨rfl, hq⟩; (first | replace hB := bl hB hq | replace hB := bl (bla hB _) hq); clear hq)))
        go_ret
        exact ⟨rfl, hB⟩

set_option maxRecDepth 100000 in
theorem sumChanges_lifted (os : Os) (started : os.Started) (H : Type) (enc : TypeId × Value → H) :
    ReturnsInHanded {} Try.checked os 7 .any (Rows.sumChangesSpec.pre6 enc Try.prog Try.f7 Rows.sumChangesRow.domain false) (Rows.sumChangesSpec.post enc Try.prog Try.f7 false true false false) := by
  have e : Try.f7.params.toList = [9, 3, 22] := by rw [Try.params7]
  refine law_of_walk (C := Try.checked) (tb := 4) H enc Try.own started (by kernel_rfl) Try.func7 Try.laidOut rfl rfl Try.underlying4 ?_ ?_
    (ChangeSpec.witness6 (enc := enc) (C := Try.checked) false ⟨#[], #[.string ByteArray.empty, .int .i64 0, .int .u16 0], []⟩ 8 (by kernel_rfl) (by kernel_rfl) (by kernel_rfl) (by kernel_rfl)) ?_
  · rw [e]
    intro t ht
    simp only [List.mem_cons, List.not_mem_nil, or_false] at ht
    rcases ht with rfl | rfl | rfl <;> exact ⟨by kernel_rfl, of_decide_eq_true (by kernel_rfl)⟩
  · intro ds hds
    rw [e] at hds
    match ds, hds with
    | [d0, d1, d2], _ => rfl
  · intro W base args ds p hval0 hA0 hsz0
    have hval : ∀ (j : Nat) t v, Try.f7.params[j]? = some t → args[j]? = some v → Value.okWide Try.prog W .any base t v := hval0
    have hA : DataW.TrodAll enc Try.prog W 0 (fun _ => true) true Try.f7.params.toList args.toList ds p := hA0
    have hsz : (DataW.weightsEach Try.prog Try.f7.params.toList ds).all (· ≤ reachBytes) = true := hsz0
    rw [Try.params7] at hA hval hsz
    obtain ⟨v0, v1, v2, d0, d1, d2, p0, p1, p2, rfl, rfl, rfl, h0, h1, h2⟩ := trodAll_three hA
    obtain ⟨x0, rfl, rfl, rfl, _⟩ := open_string Try.underlying9 (hval 0 9 v0 rfl rfl) h0
    obtain ⟨x1, rfl, rfl, rfl, k1⟩ := open_int Try.underlying3 (hval 1 3 v1 rfl rfl) h1
    obtain ⟨x2, rfl, rfl, rfl, k2⟩ := open_int Try.underlying22 (hval 2 22 v2 rfl rfl) h2
    have b2 := bounds_u16 k2
    have s0 := sized_string hsz (j := 0) (t := 9) rfl rfl
    simp only [reachBytes] at s0
    exact sumChanges_any x0 x1 x2 W s0 b2.1 b2.2

theorem sumChanges_holds : Rows.SumChangesSaid :=
  OpenClaim.holds_of_wide 7 Try.f7 rfl rfl rfl rfl rfl rfl rfl ⟨rfl, rfl, rfl, rfl, rfl⟩ rfl rfl rfl rfl rfl (by kernel_rfl) Try.func7 (by kernel_rfl)
    (of_decide_eq_true (by kernel_rfl)) (by unfold Func.isWrapper; first | (rw [if_pos (by decide +kernel)]; kernel_rfl) | (rw [if_neg (by decide +kernel)]; exact ⟨rfl, rfl⟩))
    (fun os started H enc _ => sumChanges_lifted os started H enc)
end Go.Proofs.Ytohhafkjaicjfaa

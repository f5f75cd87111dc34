/-
  For every input the law HashParts returns true, and its arguments read afterwards as before; no condition beyond the form's own reach.
-/
import Derived.Test.YteilbhdenheakaaLaw
import Derived.Test.YteilbhdenheakaaBytes
import Derived.Test.YteilbhdenheakaaWlin
import Derived.Deep.RegionWith
namespace Go.Proofs.Yteilbhdenheakaa
open Go.Joins Go.ChangeShapes Go.WideShapes Go.ChangeAt Go.RowKit Go.Deep
open Go.ChangeMaps (open_string)


theorem low_and (n : Int) (j : Nat) (m : Int) (hj : j ≤ 32) (hm : (BitVec.ofInt 64 m).toNat = 2 ^ j - 1) : ∃ X : Nat, X < 2 ^ j ∧ bits .and .i64 n m = (X : Int) := by
  have h : bits .and .i64 n m = IntKind.i64.wrap (((BitVec.ofInt 64 n).toNat % 2 ^ j : Nat) : Int) := by
    show IntKind.i64.wrap (((BitVec.ofInt 64 n &&& BitVec.ofInt 64 m).toNat : Nat) : Int) = _
    rw [BitVec.toNat_and, hm, Nat.and_two_pow_sub_one_eq_mod]
  have hb : (BitVec.ofInt 64 n).toNat % 2 ^ j < 2 ^ j := Nat.mod_lt _ (Nat.two_pow_pos j)
  have hp : 2 ^ j ≤ 2 ^ 32 := Nat.pow_le_pow_right (by omega) hj
  rw [IntWalk.i64_in _ (by omega)] at h
  exact ⟨_, hb, h⟩
theorem byteZ_cat_left (s t : ByteArray) (j : Nat) (h : j < s.size) : byteZ (s ++ t) j = byteZ s j := by
  rw [byteZ_in s j h, byteZ_in (s ++ t) j (by simp; omega)]
  congr 1
  exact ByteArray.getElem_append_left h
theorem byteZ_cat_right (s t : ByteArray) (j : Nat) (h : s.size ≤ j) : byteZ (s ++ t) j = byteZ t ((j - s.size : Nat) : Int) := by
  by_cases hj : j < s.size + t.size
  · rw [byteZ_in (s ++ t) j (by simp; omega), byteZ_in t (j - s.size) (by omega)]
    congr 1
    exact ByteArray.getElem_append_right h
  · rw [byteZ_out (s ++ t) j (.inr (by simp; omega)), byteZ_out t _ (.inr (by omega))]
theorem byteZ_rest (s : ByteArray) (k j : Nat) : byteZ (s.extract k s.size) j = byteZ s ((k + j : Nat) : Int) := by
  by_cases h : k + j < s.size
  · rw [byteZ_in (s.extract k s.size) j (by simp; omega), byteZ_in s (k + j) h]
    congr 1
    rw [ByteArray.getElem_extract]
  · rw [byteZ_out (s.extract k s.size) j (.inr (by simp; omega)), byteZ_out s _ (.inr (by omega))]
theorem zeroS_byte (n : Nat) (j : Nat) : byteZ (zeroS n) j = 0 := by
  by_cases h : j < n
  · rw [byteZ_in _ _ (by rw [zeroS_size]; exact h)]
    have : (zeroS n)[j]'(by rw [zeroS_size]; exact h) = 0 := by
      show (List.replicate n (0 : UInt8))[j]'(by simpa using h) = 0
      simp
    rw [this]; rfl
  · exact byteZ_out _ _ (.inr (by rw [zeroS_size]; omega))
theorem bitB_byte (s t : ByteArray) (i : Nat) (h : byteZ s ((i / 8 : Nat) : Int) = byteZ t ((i / 8 : Nat) : Int)) : bitB s i = bitB t i := by
  unfold bitB bitZ
  have e : (i : Int) / 8 = ((i / 8 : Nat) : Int) := by omega
  rw [e, h]
theorem bitB_none (s : ByteArray) (i : Nat) (h : byteZ s ((i / 8 : Nat) : Int) = 0) : bitB s i = false := by
  unfold bitB bitZ
  have e : (i : Int) / 8 = ((i / 8 : Nat) : Int) := by omega
  rw [e, h]
  simp
/-- the hash of a text is that of its beginning, and of the rest behind noughts -/
theorem hash_parts (key S : ByteArray) (K : Nat) (hK : K ≤ S.size) : hashV key S = hashV key (S.extract 0 K) ^^^ hashV key (zeroS K ++ S.extract K S.size) := by
  have z1 : (S.extract 0 K).size = K := by simp; omega
  have z2 : (zeroS K ++ S.extract K S.size).size = S.size := by rw [ByteArray.size_append, zeroS_size]; simp; omega
  unfold hashV
  rw [z1, z2]
  rw [← hashN_upto (fun n => win key n) (bitB (S.extract 0 K)) (8 * K) (8 * S.size) (by omega) (fun i h1 h2 => .inl (bitB_none _ i (byteZ_out _ _ (.inr (by rw [z1]; omega)))))]
  refine hashN_linear _ _ _ _ _ (fun i hi => ?_)
  by_cases h : i / 8 < K
  · rw [bitB_none (zeroS K ++ S.extract K S.size) i (by rw [byteZ_cat_left _ _ _ (by rw [zeroS_size]; exact h), zeroS_byte])]
    rw [bitB_byte S (S.extract 0 K) i ?_]
    · simp
    · rw [byteZ_in S _ (by omega), byteZ_in (S.extract 0 K) _ (by rw [z1]; exact h)]
      congr 1
      rw [ByteArray.getElem_extract]; simp
  · rw [bitB_none (S.extract 0 K) i (byteZ_out _ _ (.inr (by rw [z1]; omega)))]
    rw [bitB_byte S (zeroS K ++ S.extract K S.size) i ?_]
    · simp
    · rw [byteZ_cat_right _ _ _ (by rw [zeroS_size]; omega), zeroS_size, byteZ_rest]
      congr 2
      omega
theorem hash_noughts (key S : ByteArray) : hashV key (S ++ ⟨#[0, 0]⟩) = hashV key S := by
  have z : (S ++ ⟨#[0, 0]⟩).size = S.size + 2 := by rw [ByteArray.size_append]; rfl
  have h2 : ∀ j : Nat, byteZ ⟨#[0, 0]⟩ (j : Int) = 0 := by
    intro j
    by_cases h : j < 2
    · have : j = 0 ∨ j = 1 := by omega
      rcases this with rfl | rfl <;> decide
    · exact byteZ_out _ _ (.inr (by show ((2 : Nat) : Int) ≤ j; omega))
  unfold hashV
  rw [z, hashN_upto _ (bitB (S ++ ⟨#[0, 0]⟩)) (8 * S.size) (8 * (S.size + 2)) (by omega) (fun i h1 h3 => .inl (bitB_none _ i (by rw [byteZ_cat_right _ _ _ (by omega), h2])))]
  exact hashN_congr _ _ _ _ _ (fun i hi => bitB_byte _ _ _ (byteZ_cat_left _ _ _ (by omega))) (fun _ _ => rfl)
theorem zero_made (K : Nat) (hK : K ≤ 100) : ∃ Zc : Array Value,
    (∀ W : World, (Instr.makeSlice 29 (.int .i64 K) (.int .i64 K)).run Try.prog W = .ok (.slice (some ⟨W.heap.size, 0, none⟩) K K) (W.alloc (.cells Zc 5))) ∧
    (∀ W : World, (convert 29 9 (.slice (some ⟨W.heap.size, 0, none⟩) K K)).run Try.prog (W.alloc (.cells Zc 5)) = .ok (.string (zeroS K)) (W.alloc (.cells Zc 5))) ∧
    (∀ W : World, (convert 29 9 (.slice (some ⟨W.heap.size, 0, none⟩) K K)).run Try.prog (W.alloc (.cells Zc 5)).drew = .ok (.string (zeroS K)) (W.alloc (.cells Zc 5)).drew) := by
  obtain ⟨i0, hi, hz0, hz1, hz2⟩ := info_parts Try.info5
  have hm := fun W : World => run_make W 29 5 i0 (.int .u8 0) Try.underlying29 hi hz0 .i64 .i64 (K : Int) (K : Int) (by omega) (by omega) (by rw [hz2]; omega) (by omega)
  rw [hz1, Nat.mul_one] at hm
  have ez : madeCells (Value.cells (.int .u8 0)) ((K : Int).toNat) = (List.replicate K (Value.int .u8 0)).toArray := by
    apply Array.ext'
    rw [Int.toNat_natCast]
    exact toList_madeCells_one (.int .u8 0) K
  rw [ez] at hm
  have hc : ∀ W : World, Cells W.heap.size (List.replicate K 0) (W.alloc (.cells (List.replicate K (Value.int .u8 0)).toArray 5)) := by
    intro W j hj
    have hj2 : j < K := by simpa using hj
    rw [World.cell?_alloc_mark]
    simp [hj2, byteV]
  refine ⟨_, fun W => by have := hm W; simpa using this, fun W => ?_, fun W => ?_⟩
  · have ht := (hc W).text K
    rw [List.length_replicate] at ht
    exact ht
  · have ht := Cells.text (w := (W.alloc (.cells (List.replicate K (Value.int .u8 0)).toArray 5)).drew) (hc W) K
    rw [List.length_replicate] at ht
    exact ht

/-- What the law asks of its calls. -/
theorem parts_calls (key S : ByteArray) (K : Nat) (hK : K ≤ S.size) (P D : ByteArray) (eP : S.extract 0 K = P) (eD : zeroS K ++ S.extract K S.size = D) :
    ∃ (x y z E : Nat), bits .xor .u32 (y : Int) (z : Int) = (x : Int) ∧ (E = 0 ∨ E = 30) ∧
      (∀ w, Calls Try.prog 7 #[.string key, .string S] w fun e w' => e = .returned (.tuple #[.int .u32 x, .int .i64 E]) ∧ Below w.heap.size w w') ∧
      (∀ w, Calls Try.prog 7 #[.string key, .string P] w fun e w' => e = .returned (.tuple #[.int .u32 y, .int .i64 E]) ∧ Below w.heap.size w w') ∧
      (∀ w, Calls Try.prog 7 #[.string key, .string D] w fun e w' => e = .returned (.tuple #[.int .u32 z, .int .i64 E]) ∧ Below w.heap.size w w') ∧
      (∀ w, Calls Try.prog 7 #[.string key, .string (S ++ ⟨#[0, 0]⟩)] w fun e w' => e = .returned (.tuple #[.int .u32 x, .int .i64 E]) ∧ Below w.heap.size w w') := by
  by_cases h : key.size < 4 ∨ 52 < key.size
  · refine ⟨0, 0, 0, 30, by decide, .inr rfl, fun w => ?_, fun w => ?_, fun w => ?_, fun w => ?_⟩
    · have := hash_any key S w; rw [hashE, if_pos h] at this; exact this
    · have := hash_any key P w; rw [hashE, if_pos h] at this; exact this
    · have := hash_any key D w; rw [hashE, if_pos h] at this; exact this
    · have := hash_any key (S ++ ⟨#[0, 0]⟩) w; rw [hashE, if_pos h] at this; exact this
  · have hx := hash_parts key S K hK
    rw [eP, eD] at hx
    refine ⟨hashV key S, hashV key P, hashV key D, 0, ?_, .inl rfl, fun w => ?_, fun w => ?_, fun w => ?_, fun w => ?_⟩
    · rw [hx]; exact u32_xor_nat _ _ (hashV_lt _ _) (hashV_lt _ _)
    · have := hash_any key S w; rw [hashE, if_neg h] at this; exact this
    · have := hash_any key P w; rw [hashE, if_neg h] at this; exact this
    · have := hash_any key D w; rw [hashE, if_neg h] at this; exact this
    · have := hash_any key (S ++ ⟨#[0, 0]⟩) w; rw [hashE, if_neg h, hash_noughts] at this; exact this
theorem wins (key : ByteArray) (Y : Nat) (hY : Y < 512) : ∃ U V M : Nat, V < 4294967296 ∧ bits .and .u32 (V : Int) 2147483647 = (M : Int) ∧ (U : Int) / 2 = (M : Int) ∧
    (∀ w, Calls Try.prog 10 #[.string key, .int .i64 Y] w fun e w' => e = .returned (.int .u32 V) ∧ w = w') ∧
    (∀ w, Calls Try.prog 10 #[.string key, .int .i64 ((Y : Int) + 1)] w fun e w' => e = .returned (.int .u32 U) ∧ w = w') := by
  have hn := win_next key (Y : Int)
  refine ⟨win key ((Y : Int) + 1), win key (Y : Int), win key (Y : Int) % 2147483648, win_lt _ _, ?_, by omega, fun w => window_any key _ w (by omega) (by omega), fun w => window_any key _ w (by omega) (by omega)⟩
  have h := u32_and_nat (win key (Y : Int)) 2147483647 (win_lt _ _) (by omega)
  have e : win key (Y : Int) &&& 2147483647 = win key (Y : Int) % 2147483648 := Nat.and_two_pow_sub_one_eq_mod _ 31
  rw [e] at h
  exact h

set_option maxHeartbeats 1600000 in
theorem hashParts_any (key s : ByteArray) (cut : Int) (w : World) (hs : s.size ≤ 140737488351232) :
    Calls Try.prog 5 #[.string key, .string s, .int .i64 cut] w fun e w' => e = .returned (.bool true) ∧ Below w.heap.size w w' := by
  obtain ⟨X, hX, eX⟩ := low_and cut 16 65535 (by omega) (by decide)
  obtain ⟨Y, hY, eY⟩ := low_and cut 9 511 (by omega) (by decide)
  have hX2 : X < 65536 := hX
  have hY2 : Y < 512 := hY
  clear hX hY
  obtain ⟨U, V, M, hV, hand, hsh, g5, g6⟩ := wins key Y hY2
  have G5 := Lib.hid g5
  have G6 := Lib.hid g6
  clear g5 g6
  by_cases ks : s.size ≤ 100
  · skip
    obtain ⟨K, hK, eK⟩ : ∃ K : Nat, K ≤ s.size ∧ (X : Int).tmod ((s.size : Int) + 1) = (K : Int) := by
      have p1 := Int.emod_nonneg (X : Int) (show (s.size : Int) + 1 ≠ 0 by omega)
      have p2 := Int.emod_lt_of_pos (X : Int) (show (0 : Int) < (s.size : Int) + 1 by omega)
      exact ⟨((X : Int) % ((s.size : Int) + 1)).toNat, by omega, by rw [Int.tmod_eq_emod_of_nonneg (by omega)]; omega⟩
    have eK2 : (X : Int) % ((s.size : Int) + 1) = (K : Int) := by rw [← eK, Int.tmod_eq_emod_of_nonneg (by omega)]
    obtain ⟨P, eP⟩ : ∃ P : ByteArray, s.extract 0 K = P := ⟨_, rfl⟩
    obtain ⟨D, eD⟩ : ∃ D : ByteArray, zeroS K ++ s.extract K s.size = D := ⟨_, rfl⟩
    obtain ⟨x, y, z, E, hxor, hE, g1, g2, g3, g4⟩ := parts_calls key s K hK P D eP eD
    obtain ⟨Zc, m1, m2, m3⟩ := zero_made K (by omega)
    obtain ⟨Z0, eZ0, hZ0⟩ : ∃ Z0 : ByteArray, zeroS K = Z0 ∧ Z0.size = K := ⟨_, rfl, zeroS_size K⟩
    obtain ⟨R0, eR0, hR0⟩ : ∃ R0 : ByteArray, s.extract K s.size = R0 ∧ R0.size ≤ 100 := ⟨_, rfl, by simp; omega⟩
    rw [eZ0, eR0] at eD
    rw [eZ0] at m2 m3
    clear eZ0
    have HR := Lib.hid eR0
    clear eR0
    have G1 := Lib.hid g1
    have G2 := Lib.hid g2
    have G3 := Lib.hid g3
    have G4 := Lib.hid g4
    have HE := Lib.hid hE
    have HX := Lib.hid hxor
    have HD := Lib.hid eD
    have M1 := Lib.hid m1
    have M2 := Lib.hid m2
    have M3 := Lib.hid m3
    clear g1 g2 g3 g4 hE hxor eD m1 m2 m3
    have hB := Below.refl w.heap.size w
    go_enter Try.func5, Try.ntmps5
    go_wp2_with (first
      | (go_at_call 7; ((with_reducible refine (G1.out _).mono ?_); rintro e w2 ⟨rfl, hq⟩; replace hB := bl hB hq; clear hq))
      | (go_at_call 7; ((with_reducible refine (G2.out _).mono ?_); rintro e w2 ⟨rfl, hq⟩; replace hB := bl hB hq; clear hq)))
    have m1 := M1.out
    have m2 := M2.out
    have m3 := M3.out
    have eR0 := HR.out
    have eD := HD.out
    have e1 : (0 : Int) ≤ (K : Int) := by omega
    have e2 : (K : Int) ≤ (s.size : Int) := by omega
    have e3 : ¬ 9223372036854775807 < Z0.size + R0.size := by omega
    go_region_with (first
      | (go_at_call 7; ((with_reducible refine (G3.out _).mono ?_); rintro e w3 ⟨rfl, hq⟩)))
    replace hB := bl (bla hB (.cells Zc 5)).drew hq
    have hxor := HX.out
    clear hq m1 m2 m3 eR0 eD
    rcases HE.out with rfl | rfl
    all_goals go_wp2_with (first
      | (go_at_call 9; refine (fixed_any _).mono ?_; rintro e w9 ⟨rfl, hq⟩; replace hB := bl hB hq; clear hq)
      | (go_at_call 7; ((with_reducible refine (G4.out _).mono ?_); rintro e w4 ⟨rfl, hq⟩; replace hB := bl hB hq; clear hq))
      | (go_at_call 10; ((with_reducible refine (G5.out _).mono ?_); rintro e w5 ⟨rfl, rfl⟩))
      | (go_at_call 10; ((with_reducible refine (G6.out _).mono ?_); rintro e w6 ⟨rfl, rfl⟩)))
    all_goals (go_ret; exact ⟨rfl, hB⟩)
  · obtain ⟨S, hS, eS⟩ : ∃ S : ByteArray, S.size ≤ 100 ∧ s.extract 0 100 = S := ⟨_, by simp; omega, rfl⟩
    obtain ⟨K, hK, eK⟩ : ∃ K : Nat, K ≤ S.size ∧ (X : Int).tmod ((S.size : Int) + 1) = (K : Int) := by
      have p1 := Int.emod_nonneg (X : Int) (show (S.size : Int) + 1 ≠ 0 by omega)
      have p2 := Int.emod_lt_of_pos (X : Int) (show (0 : Int) < (S.size : Int) + 1 by omega)
      exact ⟨((X : Int) % ((S.size : Int) + 1)).toNat, by omega, by rw [Int.tmod_eq_emod_of_nonneg (by omega)]; omega⟩
    have eK2 : (X : Int) % ((S.size : Int) + 1) = (K : Int) := by rw [← eK, Int.tmod_eq_emod_of_nonneg (by omega)]
    obtain ⟨P, eP⟩ : ∃ P : ByteArray, S.extract 0 K = P := ⟨_, rfl⟩
    obtain ⟨D, eD⟩ : ∃ D : ByteArray, zeroS K ++ S.extract K S.size = D := ⟨_, rfl⟩
    obtain ⟨x, y, z, E, hxor, hE, g1, g2, g3, g4⟩ := parts_calls key S K hK P D eP eD
    obtain ⟨Zc, m1, m2, m3⟩ := zero_made K (by omega)
    obtain ⟨Z0, eZ0, hZ0⟩ : ∃ Z0 : ByteArray, zeroS K = Z0 ∧ Z0.size = K := ⟨_, rfl, zeroS_size K⟩
    obtain ⟨R0, eR0, hR0⟩ : ∃ R0 : ByteArray, S.extract K S.size = R0 ∧ R0.size ≤ 100 := ⟨_, rfl, by simp; omega⟩
    rw [eZ0, eR0] at eD
    rw [eZ0] at m2 m3
    clear eZ0
    have HR := Lib.hid eR0
    clear eR0
    have G1 := Lib.hid g1
    have G2 := Lib.hid g2
    have G3 := Lib.hid g3
    have G4 := Lib.hid g4
    have HE := Lib.hid hE
    have HX := Lib.hid hxor
    have HD := Lib.hid eD
    have M1 := Lib.hid m1
    have M2 := Lib.hid m2
    have M3 := Lib.hid m3
    clear g1 g2 g3 g4 hE hxor eD m1 m2 m3
    have hB := Below.refl w.heap.size w
    go_enter Try.func5, Try.ntmps5
    go_wp2_with (first
      | (go_at_call 7; ((with_reducible refine (G1.out _).mono ?_); rintro e w2 ⟨rfl, hq⟩; replace hB := bl hB hq; clear hq))
      | (go_at_call 7; ((with_reducible refine (G2.out _).mono ?_); rintro e w2 ⟨rfl, hq⟩; replace hB := bl hB hq; clear hq)))
    have m1 := M1.out
    have m2 := M2.out
    have m3 := M3.out
    have eR0 := HR.out
    have eD := HD.out
    have e1 : (0 : Int) ≤ (K : Int) := by omega
    have e2 : (K : Int) ≤ (S.size : Int) := by omega
    have e3 : ¬ 9223372036854775807 < Z0.size + R0.size := by omega
    go_region_with (first
      | (go_at_call 7; ((with_reducible refine (G3.out _).mono ?_); rintro e w3 ⟨rfl, hq⟩)))
    replace hB := bl (bla hB (.cells Zc 5)).drew hq
    have hxor := HX.out
    clear hq m1 m2 m3 eR0 eD
    rcases HE.out with rfl | rfl
    all_goals go_wp2_with (first
      | (go_at_call 9; refine (fixed_any _).mono ?_; rintro e w9 ⟨rfl, hq⟩; replace hB := bl hB hq; clear hq)
      | (go_at_call 7; ((with_reducible refine (G4.out _).mono ?_); rintro e w4 ⟨rfl, hq⟩; replace hB := bl hB hq; clear hq))
      | (go_at_call 10; ((with_reducible refine (G5.out _).mono ?_); rintro e w5 ⟨rfl, rfl⟩))
      | (go_at_call 10; ((with_reducible refine (G6.out _).mono ?_); rintro e w6 ⟨rfl, rfl⟩)))
    all_goals (go_ret; exact ⟨rfl, hB⟩)

set_option maxRecDepth 100000 in
theorem hashParts_lifted (os : Os) (started : os.Started) (H : Type) (enc : TypeId × Value → H) :
    ReturnsInHanded {} Try.checked os 5 .any (Rows.hashPartsSpec.pre6 enc Try.prog Try.f5 Rows.hashPartsRow.domain false) (Rows.hashPartsSpec.post enc Try.prog Try.f5 false true false false) := by
  have e : Try.f5.params.toList = [9, 9, 3] := by rw [Try.params5]
  refine law_of_walk (C := Try.checked) (tb := 4) H enc Try.own started (by kernel_rfl) Try.func5 Try.laidOut rfl rfl Try.underlying4 ?_ ?_
    (ChangeSpec.witness6 (enc := enc) (C := Try.checked) false ⟨#[], #[.string ByteArray.empty, .string ByteArray.empty, .int .i64 0], []⟩ 8 (by kernel_rfl) (by kernel_rfl) (by kernel_rfl) (by kernel_rfl)) ?_
  · rw [e]
    intro t ht
    simp only [List.mem_cons, List.not_mem_nil, or_false] at ht
    rcases ht with rfl | rfl | rfl <;> exact ⟨by kernel_rfl, of_decide_eq_true (by kernel_rfl)⟩
  · intro ds hds
    rw [e] at hds
    match ds, hds with
    | [d0, d1, d2], _ => rfl
  · intro W base args ds p hval0 hA0 hsz0
    have hval : ∀ (j : Nat) t v, Try.f5.params[j]? = some t → args[j]? = some v → Value.okWide Try.prog W .any base t v := hval0
    have hA : DataW.TrodAll enc Try.prog W 0 (fun _ => true) true Try.f5.params.toList args.toList ds p := hA0
    have hsz : (DataW.weightsEach Try.prog Try.f5.params.toList ds).all (· ≤ reachBytes) = true := hsz0
    rw [Try.params5] at hA hval hsz
    obtain ⟨v0, v1, v2, d0, d1, d2, p0, p1, p2, rfl, rfl, rfl, h0, h1, h2⟩ := trodAll_three hA
    obtain ⟨x0, rfl, rfl, rfl, _⟩ := open_string Try.underlying9 (hval 0 9 v0 rfl rfl) h0
    obtain ⟨x1, rfl, rfl, rfl, _⟩ := open_string Try.underlying9 (hval 1 9 v1 rfl rfl) h1
    obtain ⟨x2, rfl, rfl, rfl, k2⟩ := open_int Try.underlying3 (hval 2 3 v2 rfl rfl) h2
    have b2 := bounds_i64 k2
    have s0 := sized_string hsz (j := 0) (t := 9) rfl rfl
    have s1 := sized_string hsz (j := 1) (t := 9) rfl rfl
    simp only [reachBytes] at s0 s1
    exact hashParts_any x0 x1 x2 W s1

theorem hashParts_holds : Rows.HashPartsSaid :=
  OpenClaim.holds_of_wide 5 Try.f5 rfl rfl rfl rfl rfl rfl rfl ⟨rfl, rfl, rfl, rfl, rfl⟩ rfl rfl rfl rfl rfl (by kernel_rfl) Try.func5 (by kernel_rfl)
    (of_decide_eq_true (by kernel_rfl)) (by unfold Func.isWrapper; first | (rw [if_pos (by decide +kernel)]; kernel_rfl) | (rw [if_neg (by decide +kernel)]; exact ⟨rfl, rfl⟩))
    (fun os started H enc _ => hashParts_lifted os started H enc)
end Go.Proofs.Yteilbhdenheakaa

/-
  What the document's parts of a packet of version 4 answer, for every string.
-/
import Derived.Test.YtpjndjmneficbaaRfl
import Derived.Test.YtpjndjmneficbaaFog
namespace Go.Proofs.Ytpjndjmneficbaa
open Go.RowKit

theorem b0_is (s : ByteArray) (C : Nat) (h : 1 ≤ s.size) (hC : nat s 0 1 = C) : s[0].toNat = C ∧ C < 256 := by
  have := one_is s h
  exact ⟨by omega, by have := s[0].toNat_lt; omega⟩
theorem byte_is (s : ByteArray) (k : Nat) (h : k < s.size) : s[k].toNat = nat s k 1 := by
  unfold nat cutl dec
  have hk : k < s.data.toList.length := by simpa using h
  rw [if_pos rfl, List.drop_eq_getElem_cons hk]
  simp [val]
  rfl
theorem four_results (w : World) (tmps : Array Value) (gf : Nat) {n : Int} (h2 : tmps[2]?.getD undef = .pointer (some ⟨gf, 0, none⟩)) (h3 : tmps[3]?.getD undef = .int .i64 n) {v : Int} {src dst : ByteArray} {proto hops cls id flags off label : Int} {opt body : ByteArray}
    (hF : Blk w gf 56 (pkL v src dst proto hops cls id flags off label opt body)) : (results Try.f57 tmps).run Try.prog w = .ok (.tuple #[.agg (pkL v src dst proto hops cls id flags off label opt body), .int .i64 n]) w := by
  have c0 := hF.cell 0
  have c1 := hF.cell 1
  have c2 := hF.cell 2
  have c3 := hF.cell 3
  have c4 := hF.cell 4
  have c5 := hF.cell 5
  have c6 := hF.cell 6
  have c7 := hF.cell 7
  have c8 := hF.cell 8
  have c9 := hF.cell 9
  have c10 := hF.cell 10
  have c11 := hF.cell 11
  simp only [pkL] at c0 c1 c2 c3 c4 c5 c6 c7 c8 c9 c10 c11
  simp [results, Try.results57, go_sem, h2, h3, c0, c1, c2, c3, c4, c5, c6, c7, c8, c9, c10, c11, pkL]
theorem refp_results (w : World) (tmps : Array Value) (gf : Nat) {n : Int} (h2 : tmps[2]?.getD undef = .pointer (some ⟨gf, 0, none⟩)) (h3 : tmps[3]?.getD undef = .int .i64 n) {v : Int} {src dst : ByteArray} {proto hops cls id flags off label : Int} {opt body : ByteArray}
    (hF : Blk w gf 56 (pkL v src dst proto hops cls id flags off label opt body)) : (results Try.f41 tmps).run Try.prog w = .ok (.tuple #[.agg (pkL v src dst proto hops cls id flags off label opt body), .int .i64 n]) w := by
  have c0 := hF.cell 0
  have c1 := hF.cell 1
  have c2 := hF.cell 2
  have c3 := hF.cell 3
  have c4 := hF.cell 4
  have c5 := hF.cell 5
  have c6 := hF.cell 6
  have c7 := hF.cell 7
  have c8 := hF.cell 8
  have c9 := hF.cell 9
  have c10 := hF.cell 10
  have c11 := hF.cell 11
  simp only [pkL] at c0 c1 c2 c3 c4 c5 c6 c7 c8 c9 c10 c11
  simp [results, Try.results41, go_sem, h2, h3, c0, c1, c2, c3, c4, c5, c6, c7, c8, c9, c10, c11, pkL]
set_option maxRecDepth 100000 in
set_option maxHeartbeats 1600000 in
theorem four_short (s : ByteArray) (w : World) (h : 1 ≤ s.size) (hs : s.size ≤ 281474976710656) (C : Nat) (hC : nat s 0 1 = C) (h1 : s.size < 20 ∨ s.size < 4 * (C % 16)) :
    Calls Try.prog 57 #[.string s] w (Answers w pkZ 70) := by
  obtain ⟨hc, hl⟩ := b0_is s C h hC
  have t1 : (C : Int).tmod 16 = (C % 16 : Nat) := by rw [Int.tmod_eq_emod_of_nonneg (by omega)]; omega
  have t0 : C % 16 < 16 := Nat.mod_lt _ (by decide)
  obtain ⟨n, hn⟩ : ∃ n, n = 4 * (C % 16) := ⟨_, rfl⟩
  rw [← hn] at h1
  generalize C % 16 = D at *
  have t2 : (D : Int) * 4 = (n : Int) := by omega
  have n60 : n ≤ 60 := by omega
  clear hn t0
  by_cases h2 : s.size < 20
  · go_enter Try.func57, Try.ntmps57
    go_wp2_with fail
    exact bodyPost_ret (v := .tuple #[.agg pkZ, .int .i64 70]) (four_results _ _ w.heap.size rfl rfl (Blk.new w 56 _)) rfl ⟨rfl, ((Below.refl _ _).alloc (Nat.le_refl _) _)⟩
  · have h3 : s.size < n := by omega
    go_enter Try.func57, Try.ntmps57
    go_wp2_with fail
    exact bodyPost_ret (v := .tuple #[.agg pkZ, .int .i64 70]) (four_results _ _ w.heap.size rfl rfl (Blk.new w 56 _)) rfl ⟨rfl, ((Below.refl _ _).alloc (Nat.le_refl _) _)⟩
set_option maxRecDepth 100000 in
set_option maxHeartbeats 1600000 in
theorem four_form (s : ByteArray) (w : World) (h : 1 ≤ s.size) (hs : s.size ≤ 281474976710656) (C : Nat) (hC : nat s 0 1 = C) (h1 : 20 ≤ s.size ∧ 4 * (C % 16) ≤ s.size) (h2 : ¬ (20 ≤ 4 * (C % 16) ∧ nat s 6 2 / 8192 ≤ 3 ∧ nat s 2 2 = s.size)) :
    Calls Try.prog 57 #[.string s] w (Answers w pkZ 71) := by
  obtain ⟨hc, hl⟩ := b0_is s C h hC
  have t1 : (C : Int).tmod 16 = (C % 16 : Nat) := by rw [Int.tmod_eq_emod_of_nonneg (by omega)]; omega
  have t0 : C % 16 < 16 := Nat.mod_lt _ (by decide)
  obtain ⟨n, hn⟩ : ∃ n, n = 4 * (C % 16) := ⟨_, rfl⟩
  rw [← hn] at h1 h2
  generalize C % 16 = D at *
  have t2 : (D : Int) * 4 = (n : Int) := by omega
  have n60 : n ≤ 60 := by omega
  clear hn t0
  have N : ∀ W, Calls Try.prog 58 #[.string s, .int .i64 6, .int .i64 2] W fun e w' => e = .returned (.int .i64 (nat s 6 2)) ∧ W = w' := fun W => num7_any s 6 2 W (by unfold maxLen; omega) (by omega) (by omega) (by omega)
  have M : ∀ W, Calls Try.prog 58 #[.string s, .int .i64 2, .int .i64 2] W fun e w' => e = .returned (.int .i64 (nat s 2 2)) ∧ W = w' := fun W => num7_any s 2 2 W (by unfold maxLen; omega) (by omega) (by omega) (by omega)
  have HN := Lib.hid N
  have HM := Lib.hid M
  have F1 := nat_lt s 6 2
  have F2 := nat_lt s 2 2
  clear N M
  generalize nat s 6 2 = F at *
  generalize nat s 2 2 = G at *
  by_cases h3 : n < 20
  · go_enter Try.func57, Try.ntmps57
    go_wp2_with (first | (go_at_call 58; (with_reducible refine (HN.out _).mono ?_); rintro e w' ⟨rfl, rfl⟩) | (go_at_call 58; (with_reducible refine (HM.out _).mono ?_); rintro e w' ⟨rfl, rfl⟩))
    exact bodyPost_ret (v := .tuple #[.agg pkZ, .int .i64 71]) (four_results _ _ w.heap.size rfl rfl (Blk.new w 56 _)) rfl ⟨rfl, ((Below.refl _ _).alloc (Nat.le_refl _) _)⟩
  by_cases h4 : 32768 ≤ F
  · have h5 : (32768 : Int) ≤ F := by omega
    go_enter Try.func57, Try.ntmps57
    go_wp2_with (first | (go_at_call 58; (with_reducible refine (HN.out _).mono ?_); rintro e w' ⟨rfl, rfl⟩) | (go_at_call 58; (with_reducible refine (HM.out _).mono ?_); rintro e w' ⟨rfl, rfl⟩))
    exact bodyPost_ret (v := .tuple #[.agg pkZ, .int .i64 71]) (four_results _ _ w.heap.size rfl rfl (Blk.new w 56 _)) rfl ⟨rfl, ((Below.refl _ _).alloc (Nat.le_refl _) _)⟩
  have h3' : ¬ (n : Int) < 20 := by omega
  have H4 := Lib.hid (show decide ((32768 : Int) ≤ F) = false by simp; omega)
  have H5 : Hid (((G : Int) != (s.size : Int)) = true) := Lib.hid (by
    have : ¬ (G : Int) = s.size := by omega
    simpa using this)
  clear h2 h4 F1 F2
  go_enter Try.func57, Try.ntmps57
  go_wp2_with fail
  refine (HN.out _).mono ?_
  rintro e w' ⟨rfl, rfl⟩
  have h4 := H4.out
  go_wp2_with fail
  refine (HM.out _).mono ?_
  rintro e w' ⟨rfl, rfl⟩
  have h5 := H5.out
  go_wp2_with fail
  exact bodyPost_ret (v := .tuple #[.agg pkZ, .int .i64 71]) (four_results _ _ w.heap.size rfl rfl (Blk.new w 56 _)) rfl ⟨rfl, ((Below.refl _ _).alloc (Nat.le_refl _) _)⟩
set_option maxRecDepth 100000 in
set_option maxHeartbeats 1600000 in
theorem four_sum (s : ByteArray) (w : World) (h : 1 ≤ s.size) (hs : s.size ≤ 281474976710656) (C : Nat) (hC : nat s 0 1 = C) (h1 : 20 ≤ s.size ∧ 4 * (C % 16) ≤ s.size) (h2 : 20 ≤ 4 * (C % 16) ∧ nat s 6 2 / 8192 ≤ 3 ∧ nat s 2 2 = s.size) (h6 : ((65535 - onS 0 (s.extract 0 10 ++ ⟨#[0, 0]⟩ ++ s.extract 12 (4 * (C % 16))) : Int) != (nat s 10 2 : Int)) = true) :
    Calls Try.prog 57 #[.string s] w (Answers w pkZ 72) := by
  obtain ⟨hc, hl⟩ := b0_is s C h hC
  have t1 : (C : Int).tmod 16 = (C % 16 : Nat) := by rw [Int.tmod_eq_emod_of_nonneg (by omega)]; omega
  have t0 : C % 16 < 16 := Nat.mod_lt _ (by decide)
  obtain ⟨n, hn⟩ : ∃ n, n = 4 * (C % 16) := ⟨_, rfl⟩
  rw [← hn] at h1 h2 h6
  generalize C % 16 = D at *
  have t2 : (D : Int) * 4 = (n : Int) := by omega
  have n60 : n ≤ 60 := by omega
  clear hn t0
  have N : ∀ W, Calls Try.prog 58 #[.string s, .int .i64 6, .int .i64 2] W fun e w' => e = .returned (.int .i64 (nat s 6 2)) ∧ W = w' := fun W => num7_any s 6 2 W (by unfold maxLen; omega) (by omega) (by omega) (by omega)
  have M : ∀ W, Calls Try.prog 58 #[.string s, .int .i64 2, .int .i64 2] W fun e w' => e = .returned (.int .i64 (nat s 2 2)) ∧ W = w' := fun W => num7_any s 2 2 W (by unfold maxLen; omega) (by omega) (by omega) (by omega)
  have HN := Lib.hid N
  have HM := Lib.hid M
  have F1 := nat_lt s 6 2
  have F2 := nat_lt s 2 2
  clear N M
  generalize nat s 6 2 = F at *
  generalize nat s 2 2 = G at *
  have h3 : ¬ n < 20 := by omega
  have h3' : ¬ (n : Int) < 20 := by omega
  have H4 := Lib.hid (show decide ((32768 : Int) ≤ F) = false by simp; omega)
  have H5 : Hid (((G : Int) != (s.size : Int)) = false) := Lib.hid (by
    have : (G : Int) = s.size := by omega
    simpa using this)
  have h7 := h2.1
  have h8 : ¬ (s.size : Int) < 20 := by omega
  clear h2 F2
  have hz : (s.extract 0 10).size = 10 := by rw [ByteArray.size_extract]; omega
  have hy : (s.extract 12 n).size = n - 12 := by rw [ByteArray.size_extract]; omega
  have u1 : (10 : Int) ≤ s.size := by omega
  have u2 : (12 : Int) ≤ (n : Int) := by omega
  have u3 : (n : Int) ≤ s.size := by omega
  have u4 : 10 ≤ s.size := by omega
  have u5 : ¬ (s.size : Int) < 10 := by omega
  have u6 : ¬ (s.size : Int) < (n : Int) := by omega
  have u7 : ¬ (n : Int) < 12 := by omega
  have R : ∀ W, Calls Try.prog 58 #[.string s, .int .i64 10, .int .i64 2] W fun e w' => e = .returned (.int .i64 (nat s 10 2)) ∧ W = w' := fun W => num7_any s 10 2 W (by unfold maxLen; omega) (by omega) (by omega) (by omega)
  have HR := Lib.hid R
  have F3 := nat_lt s 10 2
  clear R
  have S : ∀ W, Calls Try.prog 71 #[.string (s.extract 0 10 ++ ⟨#[0, 0]⟩ ++ s.extract 12 n)] W fun e w' => e = .returned (.int .u16 (65535 - onS 0 (s.extract 0 10 ++ ⟨#[0, 0]⟩ ++ s.extract 12 n))) ∧ W = w' := fun W => sumr_any _ W (by
    rw [ByteArray.size_append, ByteArray.size_append, hz, hy]; show 10 + 2 + (n - 12) < maxLen; unfold maxLen; omega)
  have S1 := onS_range (s.extract 0 10 ++ ⟨#[0, 0]⟩ ++ s.extract 12 n) 0 (by omega) (by omega)
  generalize onS 0 (s.extract 0 10 ++ ⟨#[0, 0]⟩ ++ s.extract 12 n) = U at *
  have HS := Lib.hid S
  clear S
  have u8 : ¬ 9223372036854775807 < (s.extract 0 10).size + (⟨#[0, 0]⟩ : ByteArray).size := by rw [hz]; decide
  have u9 : ¬ 9223372036854775807 < (s.extract 0 10 ++ (⟨#[0, 0]⟩ : ByteArray)).size + (s.extract 12 n).size := by
    rw [ByteArray.size_append, hz, hy]; show ¬ 9223372036854775807 < 10 + 2 + (n - 12); omega
  generalize nat s 10 2 = V at *
  clear F1 F3
  have H6 := Lib.hid h6
  clear h6
  go_enter Try.func57, Try.ntmps57
  go_wp2_with fail
  refine (HN.out _).mono ?_
  rintro e w' ⟨rfl, rfl⟩
  have h4 := H4.out
  go_wp2_with fail
  refine (HM.out _).mono ?_
  rintro e w' ⟨rfl, rfl⟩
  have h5 := H5.out
  go_wp2_with fail
  clear h4 h5
  have h6 := H6.out
  go_quiet (first | (go_at_call 58; exact quiet_left (HR.out _)) | (go_at_call 71; exact quiet_left (HS.out _)))
  go_wp2_with fail
  exact bodyPost_ret (v := .tuple #[.agg pkZ, .int .i64 72]) (four_results _ _ w.heap.size rfl rfl (set12 (w := (w.alloc (.cells pkZ 56)).drewN nq) (Blk.new w 56 _) _ _ _ _ _ _ _ _ _ _ _ _)) rfl ⟨rfl, (below12 (w := (w.alloc (.cells pkZ 56)).drewN nq) (below_drewN ((Below.refl _ _).alloc (Nat.le_refl _) _) nq) (Nat.le_refl _) _ _ _ _ _ _ _ _ _ _ _ _)⟩
set_option maxRecDepth 100000 in
set_option maxHeartbeats 1600000 in
theorem four_good (s : ByteArray) (w : World) (h : 1 ≤ s.size) (hs : s.size ≤ 281474976710656) (C : Nat) (hC : nat s 0 1 = C) (h1 : 20 ≤ s.size ∧ 4 * (C % 16) ≤ s.size) (h2 : 20 ≤ 4 * (C % 16) ∧ nat s 6 2 / 8192 ≤ 3 ∧ nat s 2 2 = s.size) (h6 : ((65535 - onS 0 (s.extract 0 10 ++ ⟨#[0, 0]⟩ ++ s.extract 12 (4 * (C % 16))) : Int) != (nat s 10 2 : Int)) = false) (n0 : Nat) (en : n0 = 4 * (C % 16)) (F0 : Nat) (eF : F0 = nat s 6 2) :
    Calls Try.prog 57 #[.string s] w (Answers w (pkL 4 (s.extract 12 16) (s.extract 16 20) (nat s 9 1) (nat s 8 1) (nat s 1 1) (nat s 4 2) ((F0 / 8192 : Nat) : Int) ((F0 % 8192 : Nat) : Int) 0 (s.extract 20 n0) (s.extract n0 s.size)) 0) := by
  obtain ⟨hc, hl⟩ := b0_is s C h hC
  have t1 : (C : Int).tmod 16 = (C % 16 : Nat) := by rw [Int.tmod_eq_emod_of_nonneg (by omega)]; omega
  have t0 : C % 16 < 16 := Nat.mod_lt _ (by decide)
  obtain ⟨n, hn⟩ : ∃ n, n = 4 * (C % 16) := ⟨_, rfl⟩
  rw [← hn] at h1 h2 h6 en
  rw [en]
  clear en
  generalize C % 16 = D at *
  have t2 : (D : Int) * 4 = (n : Int) := by omega
  have n60 : n ≤ 60 := by omega
  clear hn t0
  have N : ∀ W, Calls Try.prog 58 #[.string s, .int .i64 6, .int .i64 2] W fun e w' => e = .returned (.int .i64 (nat s 6 2)) ∧ W = w' := fun W => num7_any s 6 2 W (by unfold maxLen; omega) (by omega) (by omega) (by omega)
  have M : ∀ W, Calls Try.prog 58 #[.string s, .int .i64 2, .int .i64 2] W fun e w' => e = .returned (.int .i64 (nat s 2 2)) ∧ W = w' := fun W => num7_any s 2 2 W (by unfold maxLen; omega) (by omega) (by omega) (by omega)
  have HN := Lib.hid N
  have HM := Lib.hid M
  have F1 := nat_lt s 6 2
  have F2 := nat_lt s 2 2
  clear N M
  rw [eF]
  clear eF
  generalize nat s 6 2 = F at *
  generalize nat s 2 2 = G at *
  have h3 : ¬ n < 20 := by omega
  have h3' : ¬ (n : Int) < 20 := by omega
  have H4 := Lib.hid (show decide ((32768 : Int) ≤ F) = false by simp; omega)
  have H5 : Hid (((G : Int) != (s.size : Int)) = false) := Lib.hid (by
    have : (G : Int) = s.size := by omega
    simpa using this)
  have h7 := h2.1
  have h8 : ¬ (s.size : Int) < 20 := by omega
  clear h2 F2
  have T : ∀ W, Calls Try.prog 58 #[.string s, .int .i64 4, .int .i64 2] W fun e w' => e = .returned (.int .i64 (nat s 4 2)) ∧ W = w' := fun W => num7_any s 4 2 W (by unfold maxLen; omega) (by omega) (by omega) (by omega)
  have HT := Lib.hid T
  clear T
  have k1 := byte_is s 1 (by omega)
  have k8 := byte_is s 8 (by omega)
  have k9 := byte_is s 9 (by omega)
  have l1 := nat_lt s 1 1
  have l8 := nat_lt s 8 1
  have l9 := nat_lt s 9 1
  have l4 := nat_lt s 4 2
  generalize nat s 1 1 = N1 at *
  generalize nat s 8 1 = N8 at *
  generalize nat s 9 1 = N9 at *
  generalize nat s 4 2 = N4 at *
  have z1 : (F : Int).tdiv 8192 = ((F / 8192 : Nat) : Int) := by rw [Int.tdiv_eq_ediv_of_nonneg (by omega)]; omega
  have z2 : (F : Int).tmod 8192 = ((F % 8192 : Nat) : Int) := by rw [Int.tmod_eq_emod_of_nonneg (by omega)]; omega
  have z3 : F / 8192 < 8 := by omega
  have z4 : F % 8192 < 8192 := by omega
  generalize F / 8192 = F8 at *
  generalize F % 8192 = F9 at *
  have hz : (s.extract 0 10).size = 10 := by rw [ByteArray.size_extract]; omega
  have hy : (s.extract 12 n).size = n - 12 := by rw [ByteArray.size_extract]; omega
  have u1 : (10 : Int) ≤ s.size := by omega
  have u2 : (12 : Int) ≤ (n : Int) := by omega
  have u3 : (n : Int) ≤ s.size := by omega
  have u4 : 10 ≤ s.size := by omega
  have u5 : ¬ (s.size : Int) < 10 := by omega
  have u6 : ¬ (s.size : Int) < (n : Int) := by omega
  have u7 : ¬ (n : Int) < 12 := by omega
  have R : ∀ W, Calls Try.prog 58 #[.string s, .int .i64 10, .int .i64 2] W fun e w' => e = .returned (.int .i64 (nat s 10 2)) ∧ W = w' := fun W => num7_any s 10 2 W (by unfold maxLen; omega) (by omega) (by omega) (by omega)
  have HR := Lib.hid R
  have F3 := nat_lt s 10 2
  clear R
  have S : ∀ W, Calls Try.prog 71 #[.string (s.extract 0 10 ++ ⟨#[0, 0]⟩ ++ s.extract 12 n)] W fun e w' => e = .returned (.int .u16 (65535 - onS 0 (s.extract 0 10 ++ ⟨#[0, 0]⟩ ++ s.extract 12 n))) ∧ W = w' := fun W => sumr_any _ W (by
    rw [ByteArray.size_append, ByteArray.size_append, hz, hy]; show 10 + 2 + (n - 12) < maxLen; unfold maxLen; omega)
  have S1 := onS_range (s.extract 0 10 ++ ⟨#[0, 0]⟩ ++ s.extract 12 n) 0 (by omega) (by omega)
  generalize onS 0 (s.extract 0 10 ++ ⟨#[0, 0]⟩ ++ s.extract 12 n) = U at *
  have HS := Lib.hid S
  clear S
  have u8 : ¬ 9223372036854775807 < (s.extract 0 10).size + (⟨#[0, 0]⟩ : ByteArray).size := by rw [hz]; decide
  have u9 : ¬ 9223372036854775807 < (s.extract 0 10 ++ (⟨#[0, 0]⟩ : ByteArray)).size + (s.extract 12 n).size := by
    rw [ByteArray.size_append, hz, hy]; show ¬ 9223372036854775807 < 10 + 2 + (n - 12); omega
  generalize nat s 10 2 = V at *
  clear F1 F3
  have H6 := Lib.hid h6
  clear h6
  go_enter Try.func57, Try.ntmps57
  go_wp2_with fail
  refine (HN.out _).mono ?_
  rintro e w' ⟨rfl, rfl⟩
  have h4 := H4.out
  go_wp2_with fail
  refine (HM.out _).mono ?_
  rintro e w' ⟨rfl, rfl⟩
  have h5 := H5.out
  go_wp2_with fail
  clear h4 h5
  have h6 := H6.out
  go_quiet (first | (go_at_call 58; exact quiet_left (HR.out _)) | (go_at_call 71; exact quiet_left (HS.out _)))
  go_wp2_with fail
  clear u1 u2 u4 u5 u7 u8 u9 HR HS HN HM H4 H5 H6 S1
  have v1 : (1 : Int) < s.size := by omega
  have v2 : (8 : Int) < s.size := by omega
  have v3 : (9 : Int) < s.size := by omega
  have v4 : (16 : Int) ≤ s.size := by omega
  have v5 : (20 : Int) ≤ s.size := by omega
  have v6 : (20 : Int) ≤ (n : Int) := by omega
  have v7 : 1 < s.size := by omega
  have v8 : 8 < s.size := by omega
  have v9 : 9 < s.size := by omega
  have v10 : 16 ≤ s.size := by omega
  have v11 : 20 ≤ s.size := by omega
  have v12 : n ≤ s.size := by omega
  have v13 : ¬ (s.size : Int) < 16 := by omega
  have v14 : ¬ (n : Int) < 20 := by omega
  have hW : Blk ((w.alloc (.cells pkZ 56)).drewN nq) w.heap.size 56 pkZ := Blk.new w 56 _
  have hV : Below w.heap.size w ((w.alloc (.cells pkZ 56)).drewN nq) := below_drewN ((Below.refl _ _).alloc (Nat.le_refl _) _) nq
  change Code.wp _ _ _ _ ((w.alloc (.cells pkZ 56)).drewN nq)
  generalize (w.alloc (.cells pkZ 56)).drewN nq = W0 at *
  go_still_tail 26, (by kernel_rfl)
  still_call ((HT.out _).mono fun e w' ⟨he, hw⟩ => ⟨he, hw.symm⟩)
  repeat still_step
  refine wpStill_nil ?_
  change wpList _ _ _ _ _ W0.drew
  have hW2 : Blk W0.drew w.heap.size 56 pkZ := hW
  have hV2 : Below w.heap.size w W0.drew := hV.drew
  generalize W0.drew = W1 at *
  clear hW hV
  have fr := hW2.frozen
  have c0 := hW2.cell 0
  have c1 := hW2.cell 1
  have c2 := hW2.cell 2
  have c3 := hW2.cell 3
  have c4 := hW2.cell 4
  have c5 := hW2.cell 5
  have c6 := hW2.cell 6
  have c7 := hW2.cell 7
  have c8 := hW2.cell 8
  have c9 := hW2.cell 9
  have c10 := hW2.cell 10
  have c11 := hW2.cell 11
  simp only [pkZ, pkL, List.getElem?_toArray, List.getElem?_cons_zero, List.getElem?_cons_succ] at c0 c1 c2 c3 c4 c5 c6 c7 c8 c9 c10 c11
  go_wp2_with fail
  exact bodyPost_ret (v := .tuple #[.agg (pkL 4 (s.extract 12 16) (s.extract 16 20) N9 N8 N1 N4 F8 F9 0 (s.extract 20 n) (s.extract n s.size)), .int .i64 0]) (four_results _ _ w.heap.size rfl rfl (set12 hW2 _ _ _ _ _ _ _ _ _ _ _ _)) rfl ⟨rfl, below12 hV2 (Nat.le_refl _) _ _ _ _ _ _ _ _ _ _ _ _⟩
end Go.Proofs.Ytpjndjmneficbaa

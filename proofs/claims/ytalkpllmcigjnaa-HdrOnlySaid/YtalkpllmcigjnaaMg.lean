/-
  Packets: what the document's Parse answers.
-/
import Derived.Test.YtalkpllmcigjnaaMa
import Derived.Test.YtalkpllmcigjnaaMd
import Derived.Test.YtalkpllmcigjnaaMf
namespace Go.Proofs.Ytalkpllmcigjnaa
open Go.RowKit

theorem cut_all (s : ByteArray) (n : Nat) (h : s.size ≤ n) : s.extract 0 n = s := by
  apply ByteArray.ext
  rw [ByteArray.data_extract]
  have : s.data.size = s.size := rfl
  rw [Array.extract_eq_self_of_le (by omega)]
theorem num7_any (s : ByteArray) (a n : Nat) (w : World) (hs : s.size ≤ maxLen) (h1 : 1 ≤ n) (h2 : n ≤ 4) (h3 : a + n ≤ s.size) :
    Calls Try.prog 76 #[.string s, .int .i64 a, .int .i64 n] w fun e w' => e = .returned (.int .i64 (nat s a n)) ∧ w = w' := by
  have hlt := nat_lt s a n
  have hp : 256 ^ n ≤ 256 ^ 4 := Nat.pow_le_pow_right (by decide) h2
  have G := fun W => getr_big s a n W hs (by omega) (by omega) h3
  change ∀ W, Calls Try.prog 108 #[.string s, .int .i64 a, .int .i64 n, .bool true] W fun e w' => e = .returned (.tuple #[.int .u64 (nat s a n), .int .i64 0]) ∧ W = w' at G
  have HG := Lib.hid G
  have hX : nat s a n < 4294967296 := by omega
  clear G hlt hp
  generalize nat s a n = X at *
  go_enter Try.func76, Try.ntmps76
  go_wp2_with (go_at_call 108; (with_reducible refine (HG.out _).mono ?_); rintro e w' ⟨rfl, rfl⟩)
  go_ret
  exact ⟨rfl, rfl⟩
end Go.Proofs.Ytalkpllmcigjnaa
namespace Go.Proofs.Ytalkpllmcigjnaa
open Go.RowKit

theorem b0_is (s : ByteArray) (C : Nat) (h : 1 ≤ s.size) (hC : nat s 0 1 = C) : s[0].toNat = C ∧ C < 256 := by
  have := one_is s h
  exact ⟨by omega, by have := s[0].toNat_lt; omega⟩
theorem byte_is (s : ByteArray) (k : Nat) (h : k < s.size) : s[k].toNat = nat s k 1 := by
  unfold nat cutl dec
  have hk : k < s.data.toList.length := by simpa using h
  rw [if_pos rfl, List.drop_eq_getElem_cons hk]
  simp [val]
  rfl
theorem four_results (w : World) (tmps : Array Value) (gf : Nat) {n : Int} (h2 : tmps[2]?.getD undef = .pointer (some ⟨gf, 0, none⟩)) (h3 : tmps[3]?.getD undef = .int .i64 n) {v : Int} {src dst : ByteArray} {proto hops cls id flags off label : Int} {opt body : ByteArray}
    (hF : Blk w gf 36 (pkL v src dst proto hops cls id flags off label opt body)) : (results Try.f75 tmps).run Try.prog w = .ok (.tuple #[.agg (pkL v src dst proto hops cls id flags off label opt body), .int .i64 n]) w := by
  have c0 := hF.cell 0
  have c1 := hF.cell 1
  have c2 := hF.cell 2
  have c3 := hF.cell 3
  have c4 := hF.cell 4
  have c5 := hF.cell 5
  have c6 := hF.cell 6
  have c7 := hF.cell 7
  have c8 := hF.cell 8
  have c9 := hF.cell 9
  have c10 := hF.cell 10
  have c11 := hF.cell 11
  simp only [pkL] at c0 c1 c2 c3 c4 c5 c6 c7 c8 c9 c10 c11
  simp [results, Try.results75, go_sem, h2, h3, c0, c1, c2, c3, c4, c5, c6, c7, c8, c9, c10, c11, pkL]
theorem refp_results (w : World) (tmps : Array Value) (gf : Nat) {n : Int} (h2 : tmps[2]?.getD undef = .pointer (some ⟨gf, 0, none⟩)) (h3 : tmps[3]?.getD undef = .int .i64 n) {v : Int} {src dst : ByteArray} {proto hops cls id flags off label : Int} {opt body : ByteArray}
    (hF : Blk w gf 36 (pkL v src dst proto hops cls id flags off label opt body)) : (results Try.f35 tmps).run Try.prog w = .ok (.tuple #[.agg (pkL v src dst proto hops cls id flags off label opt body), .int .i64 n]) w := by
  have c0 := hF.cell 0
  have c1 := hF.cell 1
  have c2 := hF.cell 2
  have c3 := hF.cell 3
  have c4 := hF.cell 4
  have c5 := hF.cell 5
  have c6 := hF.cell 6
  have c7 := hF.cell 7
  have c8 := hF.cell 8
  have c9 := hF.cell 9
  have c10 := hF.cell 10
  have c11 := hF.cell 11
  simp only [pkL] at c0 c1 c2 c3 c4 c5 c6 c7 c8 c9 c10 c11
  simp [results, Try.results35, go_sem, h2, h3, c0, c1, c2, c3, c4, c5, c6, c7, c8, c9, c10, c11, pkL]
set_option maxRecDepth 100000 in
set_option maxHeartbeats 1600000 in
theorem four_short (s : ByteArray) (w : World) (h : 1 ≤ s.size) (hs : s.size ≤ 281474976710656) (C : Nat) (hC : nat s 0 1 = C) (h1 : s.size < 20 ∨ s.size < 4 * (C % 16)) :
    Calls Try.prog 75 #[.string s] w (Answers w pkZ 70) := by
  obtain ⟨hc, hl⟩ := b0_is s C h hC
  have t1 : (C : Int).tmod 16 = (C % 16 : Nat) := by rw [Int.tmod_eq_emod_of_nonneg (by omega)]; omega
  have t0 : C % 16 < 16 := Nat.mod_lt _ (by decide)
  obtain ⟨n, hn⟩ : ∃ n, n = 4 * (C % 16) := ⟨_, rfl⟩
  rw [← hn] at h1
  generalize C % 16 = D at *
  have t2 : (D : Int) * 4 = (n : Int) := by omega
  have n60 : n ≤ 60 := by omega
  clear hn t0
  by_cases h2 : s.size < 20
  · go_enter Try.func75, Try.ntmps75
    go_wp2_with fail
    exact bodyPost_ret (v := .tuple #[.agg pkZ, .int .i64 70]) (four_results _ _ w.heap.size rfl rfl (Blk.new w 36 _)) rfl ⟨rfl, ((Below.refl _ _).alloc (Nat.le_refl _) _)⟩
  · have h3 : s.size < n := by omega
    go_enter Try.func75, Try.ntmps75
    go_wp2_with fail
    exact bodyPost_ret (v := .tuple #[.agg pkZ, .int .i64 70]) (four_results _ _ w.heap.size rfl rfl (Blk.new w 36 _)) rfl ⟨rfl, ((Below.refl _ _).alloc (Nat.le_refl _) _)⟩
set_option maxRecDepth 100000 in
set_option maxHeartbeats 1600000 in
theorem four_form (s : ByteArray) (w : World) (h : 1 ≤ s.size) (hs : s.size ≤ 281474976710656) (C : Nat) (hC : nat s 0 1 = C) (h1 : 20 ≤ s.size ∧ 4 * (C % 16) ≤ s.size) (h2 : ¬ (20 ≤ 4 * (C % 16) ∧ nat s 6 2 / 8192 ≤ 3 ∧ nat s 2 2 = s.size)) :
    Calls Try.prog 75 #[.string s] w (Answers w pkZ 71) := by
  obtain ⟨hc, hl⟩ := b0_is s C h hC
  have t1 : (C : Int).tmod 16 = (C % 16 : Nat) := by rw [Int.tmod_eq_emod_of_nonneg (by omega)]; omega
  have t0 : C % 16 < 16 := Nat.mod_lt _ (by decide)
  obtain ⟨n, hn⟩ : ∃ n, n = 4 * (C % 16) := ⟨_, rfl⟩
  rw [← hn] at h1 h2
  generalize C % 16 = D at *
  have t2 : (D : Int) * 4 = (n : Int) := by omega
  have n60 : n ≤ 60 := by omega
  clear hn t0
  have N : ∀ W, Calls Try.prog 76 #[.string s, .int .i64 6, .int .i64 2] W fun e w' => e = .returned (.int .i64 (nat s 6 2)) ∧ W = w' := fun W => num7_any s 6 2 W (by unfold maxLen; omega) (by omega) (by omega) (by omega)
  have M : ∀ W, Calls Try.prog 76 #[.string s, .int .i64 2, .int .i64 2] W fun e w' => e = .returned (.int .i64 (nat s 2 2)) ∧ W = w' := fun W => num7_any s 2 2 W (by unfold maxLen; omega) (by omega) (by omega) (by omega)
  have HN := Lib.hid N
  have HM := Lib.hid M
  have F1 := nat_lt s 6 2
  have F2 := nat_lt s 2 2
  clear N M
  generalize nat s 6 2 = F at *
  generalize nat s 2 2 = G at *
  by_cases h3 : n < 20
  · go_enter Try.func75, Try.ntmps75
    go_wp2_with (first | (go_at_call 76; (with_reducible refine (HN.out _).mono ?_); rintro e w' ⟨rfl, rfl⟩) | (go_at_call 76; (with_reducible refine (HM.out _).mono ?_); rintro e w' ⟨rfl, rfl⟩))
    exact bodyPost_ret (v := .tuple #[.agg pkZ, .int .i64 71]) (four_results _ _ w.heap.size rfl rfl (Blk.new w 36 _)) rfl ⟨rfl, ((Below.refl _ _).alloc (Nat.le_refl _) _)⟩
  by_cases h4 : 32768 ≤ F
  · have h5 : (32768 : Int) ≤ F := by omega
    go_enter Try.func75, Try.ntmps75
    go_wp2_with (first | (go_at_call 76; (with_reducible refine (HN.out _).mono ?_); rintro e w' ⟨rfl, rfl⟩) | (go_at_call 76; (with_reducible refine (HM.out _).mono ?_); rintro e w' ⟨rfl, rfl⟩))
    exact bodyPost_ret (v := .tuple #[.agg pkZ, .int .i64 71]) (four_results _ _ w.heap.size rfl rfl (Blk.new w 36 _)) rfl ⟨rfl, ((Below.refl _ _).alloc (Nat.le_refl _) _)⟩
  have h3' : ¬ (n : Int) < 20 := by omega
  have H4 := Lib.hid (show decide ((32768 : Int) ≤ F) = false by simp; omega)
  have H5 : Hid (((G : Int) != (s.size : Int)) = true) := Lib.hid (by
    have : ¬ (G : Int) = s.size := by omega
    simpa using this)
  clear h2 h4 F1 F2
  go_enter Try.func75, Try.ntmps75
  go_wp2_with fail
  refine (HN.out _).mono ?_
  rintro e w' ⟨rfl, rfl⟩
  have h4 := H4.out
  go_wp2_with fail
  refine (HM.out _).mono ?_
  rintro e w' ⟨rfl, rfl⟩
  have h5 := H5.out
  go_wp2_with fail
  exact bodyPost_ret (v := .tuple #[.agg pkZ, .int .i64 71]) (four_results _ _ w.heap.size rfl rfl (Blk.new w 36 _)) rfl ⟨rfl, ((Below.refl _ _).alloc (Nat.le_refl _) _)⟩
set_option maxRecDepth 100000 in
set_option maxHeartbeats 1600000 in
theorem four_sum (s : ByteArray) (w : World) (h : 1 ≤ s.size) (hs : s.size ≤ 281474976710656) (C : Nat) (hC : nat s 0 1 = C) (h1 : 20 ≤ s.size ∧ 4 * (C % 16) ≤ s.size) (h2 : 20 ≤ 4 * (C % 16) ∧ nat s 6 2 / 8192 ≤ 3 ∧ nat s 2 2 = s.size) (h6 : ((65535 - onS 0 (s.extract 0 10 ++ ⟨#[0, 0]⟩ ++ s.extract 12 (4 * (C % 16))) : Int) != (nat s 10 2 : Int)) = true) :
    Calls Try.prog 75 #[.string s] w (Answers w pkZ 72) := by
  obtain ⟨hc, hl⟩ := b0_is s C h hC
  have t1 : (C : Int).tmod 16 = (C % 16 : Nat) := by rw [Int.tmod_eq_emod_of_nonneg (by omega)]; omega
  have t0 : C % 16 < 16 := Nat.mod_lt _ (by decide)
  obtain ⟨n, hn⟩ : ∃ n, n = 4 * (C % 16) := ⟨_, rfl⟩
  rw [← hn] at h1 h2 h6
  generalize C % 16 = D at *
  have t2 : (D : Int) * 4 = (n : Int) := by omega
  have n60 : n ≤ 60 := by omega
  clear hn t0
  have N : ∀ W, Calls Try.prog 76 #[.string s, .int .i64 6, .int .i64 2] W fun e w' => e = .returned (.int .i64 (nat s 6 2)) ∧ W = w' := fun W => num7_any s 6 2 W (by unfold maxLen; omega) (by omega) (by omega) (by omega)
  have M : ∀ W, Calls Try.prog 76 #[.string s, .int .i64 2, .int .i64 2] W fun e w' => e = .returned (.int .i64 (nat s 2 2)) ∧ W = w' := fun W => num7_any s 2 2 W (by unfold maxLen; omega) (by omega) (by omega) (by omega)
  have HN := Lib.hid N
  have HM := Lib.hid M
  have F1 := nat_lt s 6 2
  have F2 := nat_lt s 2 2
  clear N M
  generalize nat s 6 2 = F at *
  generalize nat s 2 2 = G at *
  have h3 : ¬ n < 20 := by omega
  have h3' : ¬ (n : Int) < 20 := by omega
  have H4 := Lib.hid (show decide ((32768 : Int) ≤ F) = false by simp; omega)
  have H5 : Hid (((G : Int) != (s.size : Int)) = false) := Lib.hid (by
    have : (G : Int) = s.size := by omega
    simpa using this)
  have h7 := h2.1
  have h8 : ¬ (s.size : Int) < 20 := by omega
  clear h2 F2
  have hz : (s.extract 0 10).size = 10 := by rw [ByteArray.size_extract]; omega
  have hy : (s.extract 12 n).size = n - 12 := by rw [ByteArray.size_extract]; omega
  have u1 : (10 : Int) ≤ s.size := by omega
  have u2 : (12 : Int) ≤ (n : Int) := by omega
  have u3 : (n : Int) ≤ s.size := by omega
  have u4 : 10 ≤ s.size := by omega
  have u5 : ¬ (s.size : Int) < 10 := by omega
  have u6 : ¬ (s.size : Int) < (n : Int) := by omega
  have u7 : ¬ (n : Int) < 12 := by omega
  have R : ∀ W, Calls Try.prog 76 #[.string s, .int .i64 10, .int .i64 2] W fun e w' => e = .returned (.int .i64 (nat s 10 2)) ∧ W = w' := fun W => num7_any s 10 2 W (by unfold maxLen; omega) (by omega) (by omega) (by omega)
  have HR := Lib.hid R
  have F3 := nat_lt s 10 2
  clear R
  have S : ∀ W, Calls Try.prog 64 #[.string (s.extract 0 10 ++ ⟨#[0, 0]⟩ ++ s.extract 12 n)] W fun e w' => e = .returned (.int .u16 (65535 - onS 0 (s.extract 0 10 ++ ⟨#[0, 0]⟩ ++ s.extract 12 n))) ∧ W = w' := fun W => sumr_any _ W (by
    rw [ByteArray.size_append, ByteArray.size_append, hz, hy]; show 10 + 2 + (n - 12) < maxLen; unfold maxLen; omega)
  have S1 := onS_range (s.extract 0 10 ++ ⟨#[0, 0]⟩ ++ s.extract 12 n) 0 (by omega) (by omega)
  generalize onS 0 (s.extract 0 10 ++ ⟨#[0, 0]⟩ ++ s.extract 12 n) = U at *
  have HS := Lib.hid S
  clear S
  have u8 : ¬ 9223372036854775807 < (s.extract 0 10).size + (⟨#[0, 0]⟩ : ByteArray).size := by rw [hz]; decide
  have u9 : ¬ 9223372036854775807 < (s.extract 0 10 ++ (⟨#[0, 0]⟩ : ByteArray)).size + (s.extract 12 n).size := by
    rw [ByteArray.size_append, hz, hy]; show ¬ 9223372036854775807 < 10 + 2 + (n - 12); omega
  generalize nat s 10 2 = V at *
  clear F1 F3
  have H6 := Lib.hid h6
  clear h6
  go_enter Try.func75, Try.ntmps75
  go_wp2_with fail
  refine (HN.out _).mono ?_
  rintro e w' ⟨rfl, rfl⟩
  have h4 := H4.out
  go_wp2_with fail
  refine (HM.out _).mono ?_
  rintro e w' ⟨rfl, rfl⟩
  have h5 := H5.out
  go_wp2_with fail
  clear h4 h5
  have h6 := H6.out
  go_quiet (first | (go_at_call 76; exact quiet_left (HR.out _)) | (go_at_call 64; exact quiet_left (HS.out _)))
  go_wp2_with fail
  exact bodyPost_ret (v := .tuple #[.agg pkZ, .int .i64 72]) (four_results _ _ w.heap.size rfl rfl (set12 (w := (w.alloc (.cells pkZ 36)).drewN nq) (Blk.new w 36 _) _ _ _ _ _ _ _ _ _ _ _ _)) rfl ⟨rfl, (below12 (w := (w.alloc (.cells pkZ 36)).drewN nq) (below_drewN ((Below.refl _ _).alloc (Nat.le_refl _) _) nq) (Nat.le_refl _) _ _ _ _ _ _ _ _ _ _ _ _)⟩
set_option maxRecDepth 100000 in
set_option maxHeartbeats 1600000 in
theorem four_good (s : ByteArray) (w : World) (h : 1 ≤ s.size) (hs : s.size ≤ 281474976710656) (C : Nat) (hC : nat s 0 1 = C) (h1 : 20 ≤ s.size ∧ 4 * (C % 16) ≤ s.size) (h2 : 20 ≤ 4 * (C % 16) ∧ nat s 6 2 / 8192 ≤ 3 ∧ nat s 2 2 = s.size) (h6 : ((65535 - onS 0 (s.extract 0 10 ++ ⟨#[0, 0]⟩ ++ s.extract 12 (4 * (C % 16))) : Int) != (nat s 10 2 : Int)) = false) (n0 : Nat) (en : n0 = 4 * (C % 16)) (F0 : Nat) (eF : F0 = nat s 6 2) :
    Calls Try.prog 75 #[.string s] w (Answers w (pkL 4 (s.extract 12 16) (s.extract 16 20) (nat s 9 1) (nat s 8 1) (nat s 1 1) (nat s 4 2) ((F0 / 8192 : Nat) : Int) ((F0 % 8192 : Nat) : Int) 0 (s.extract 20 n0) (s.extract n0 s.size)) 0) := by
  obtain ⟨hc, hl⟩ := b0_is s C h hC
  have t1 : (C : Int).tmod 16 = (C % 16 : Nat) := by rw [Int.tmod_eq_emod_of_nonneg (by omega)]; omega
  have t0 : C % 16 < 16 := Nat.mod_lt _ (by decide)
  obtain ⟨n, hn⟩ : ∃ n, n = 4 * (C % 16) := ⟨_, rfl⟩
  rw [← hn] at h1 h2 h6 en
  rw [en]
  clear en
  generalize C % 16 = D at *
  have t2 : (D : Int) * 4 = (n : Int) := by omega
  have n60 : n ≤ 60 := by omega
  clear hn t0
  have N : ∀ W, Calls Try.prog 76 #[.string s, .int .i64 6, .int .i64 2] W fun e w' => e = .returned (.int .i64 (nat s 6 2)) ∧ W = w' := fun W => num7_any s 6 2 W (by unfold maxLen; omega) (by omega) (by omega) (by omega)
  have M : ∀ W, Calls Try.prog 76 #[.string s, .int .i64 2, .int .i64 2] W fun e w' => e = .returned (.int .i64 (nat s 2 2)) ∧ W = w' := fun W => num7_any s 2 2 W (by unfold maxLen; omega) (by omega) (by omega) (by omega)
  have HN := Lib.hid N
  have HM := Lib.hid M
  have F1 := nat_lt s 6 2
  have F2 := nat_lt s 2 2
  clear N M
  rw [eF]
  clear eF
  generalize nat s 6 2 = F at *
  generalize nat s 2 2 = G at *
  have h3 : ¬ n < 20 := by omega
  have h3' : ¬ (n : Int) < 20 := by omega
  have H4 := Lib.hid (show decide ((32768 : Int) ≤ F) = false by simp; omega)
  have H5 : Hid (((G : Int) != (s.size : Int)) = false) := Lib.hid (by
    have : (G : Int) = s.size := by omega
    simpa using this)
  have h7 := h2.1
  have h8 : ¬ (s.size : Int) < 20 := by omega
  clear h2 F2
  have T : ∀ W, Calls Try.prog 76 #[.string s, .int .i64 4, .int .i64 2] W fun e w' => e = .returned (.int .i64 (nat s 4 2)) ∧ W = w' := fun W => num7_any s 4 2 W (by unfold maxLen; omega) (by omega) (by omega) (by omega)
  have HT := Lib.hid T
  clear T
  have k1 := byte_is s 1 (by omega)
  have k8 := byte_is s 8 (by omega)
  have k9 := byte_is s 9 (by omega)
  have l1 := nat_lt s 1 1
  have l8 := nat_lt s 8 1
  have l9 := nat_lt s 9 1
  have l4 := nat_lt s 4 2
  generalize nat s 1 1 = N1 at *
  generalize nat s 8 1 = N8 at *
  generalize nat s 9 1 = N9 at *
  generalize nat s 4 2 = N4 at *
  have z1 : (F : Int).tdiv 8192 = ((F / 8192 : Nat) : Int) := by rw [Int.tdiv_eq_ediv_of_nonneg (by omega)]; omega
  have z2 : (F : Int).tmod 8192 = ((F % 8192 : Nat) : Int) := by rw [Int.tmod_eq_emod_of_nonneg (by omega)]; omega
  have z3 : F / 8192 < 8 := by omega
  have z4 : F % 8192 < 8192 := by omega
  generalize F / 8192 = F8 at *
  generalize F % 8192 = F9 at *
  have hz : (s.extract 0 10).size = 10 := by rw [ByteArray.size_extract]; omega
  have hy : (s.extract 12 n).size = n - 12 := by rw [ByteArray.size_extract]; omega
  have u1 : (10 : Int) ≤ s.size := by omega
  have u2 : (12 : Int) ≤ (n : Int) := by omega
  have u3 : (n : Int) ≤ s.size := by omega
  have u4 : 10 ≤ s.size := by omega
  have u5 : ¬ (s.size : Int) < 10 := by omega
  have u6 : ¬ (s.size : Int) < (n : Int) := by omega
  have u7 : ¬ (n : Int) < 12 := by omega
  have R : ∀ W, Calls Try.prog 76 #[.string s, .int .i64 10, .int .i64 2] W fun e w' => e = .returned (.int .i64 (nat s 10 2)) ∧ W = w' := fun W => num7_any s 10 2 W (by unfold maxLen; omega) (by omega) (by omega) (by omega)
  have HR := Lib.hid R
  have F3 := nat_lt s 10 2
  clear R
  have S : ∀ W, Calls Try.prog 64 #[.string (s.extract 0 10 ++ ⟨#[0, 0]⟩ ++ s.extract 12 n)] W fun e w' => e = .returned (.int .u16 (65535 - onS 0 (s.extract 0 10 ++ ⟨#[0, 0]⟩ ++ s.extract 12 n))) ∧ W = w' := fun W => sumr_any _ W (by
    rw [ByteArray.size_append, ByteArray.size_append, hz, hy]; show 10 + 2 + (n - 12) < maxLen; unfold maxLen; omega)
  have S1 := onS_range (s.extract 0 10 ++ ⟨#[0, 0]⟩ ++ s.extract 12 n) 0 (by omega) (by omega)
  generalize onS 0 (s.extract 0 10 ++ ⟨#[0, 0]⟩ ++ s.extract 12 n) = U at *
  have HS := Lib.hid S
  clear S
  have u8 : ¬ 9223372036854775807 < (s.extract 0 10).size + (⟨#[0, 0]⟩ : ByteArray).size := by rw [hz]; decide
  have u9 : ¬ 9223372036854775807 < (s.extract 0 10 ++ (⟨#[0, 0]⟩ : ByteArray)).size + (s.extract 12 n).size := by
    rw [ByteArray.size_append, hz, hy]; show ¬ 9223372036854775807 < 10 + 2 + (n - 12); omega
  generalize nat s 10 2 = V at *
  clear F1 F3
  have H6 := Lib.hid h6
  clear h6
  go_enter Try.func75, Try.ntmps75
  go_wp2_with fail
  refine (HN.out _).mono ?_
  rintro e w' ⟨rfl, rfl⟩
  have h4 := H4.out
  go_wp2_with fail
  refine (HM.out _).mono ?_
  rintro e w' ⟨rfl, rfl⟩
  have h5 := H5.out
  go_wp2_with fail
  clear h4 h5
  have h6 := H6.out
  go_quiet (first | (go_at_call 76; exact quiet_left (HR.out _)) | (go_at_call 64; exact quiet_left (HS.out _)))
  go_wp2_with fail
  clear u1 u2 u4 u5 u7 u8 u9 HR HS HN HM H4 H5 H6 S1
  have v1 : (1 : Int) < s.size := by omega
  have v2 : (8 : Int) < s.size := by omega
  have v3 : (9 : Int) < s.size := by omega
  have v4 : (16 : Int) ≤ s.size := by omega
  have v5 : (20 : Int) ≤ s.size := by omega
  have v6 : (20 : Int) ≤ (n : Int) := by omega
  have v7 : 1 < s.size := by omega
  have v8 : 8 < s.size := by omega
  have v9 : 9 < s.size := by omega
  have v10 : 16 ≤ s.size := by omega
  have v11 : 20 ≤ s.size := by omega
  have v12 : n ≤ s.size := by omega
  have v13 : ¬ (s.size : Int) < 16 := by omega
  have v14 : ¬ (n : Int) < 20 := by omega
  have hW : Blk ((w.alloc (.cells pkZ 36)).drewN nq) w.heap.size 36 pkZ := Blk.new w 36 _
  have hV : Below w.heap.size w ((w.alloc (.cells pkZ 36)).drewN nq) := below_drewN ((Below.refl _ _).alloc (Nat.le_refl _) _) nq
  change Code.wp _ _ _ _ ((w.alloc (.cells pkZ 36)).drewN nq)
  generalize (w.alloc (.cells pkZ 36)).drewN nq = W0 at *
  go_still_tail 26, (by kernel_rfl)
  still_call ((HT.out _).mono fun e w' ⟨he, hw⟩ => ⟨he, hw.symm⟩)
  repeat still_step
  refine wpStill_nil ?_
  change wpList _ _ _ _ _ W0.drew
  have hW2 : Blk W0.drew w.heap.size 36 pkZ := hW
  have hV2 : Below w.heap.size w W0.drew := hV.drew
  generalize W0.drew = W1 at *
  clear hW hV
  have fr := hW2.frozen
  have c0 := hW2.cell 0
  have c1 := hW2.cell 1
  have c2 := hW2.cell 2
  have c3 := hW2.cell 3
  have c4 := hW2.cell 4
  have c5 := hW2.cell 5
  have c6 := hW2.cell 6
  have c7 := hW2.cell 7
  have c8 := hW2.cell 8
  have c9 := hW2.cell 9
  have c10 := hW2.cell 10
  have c11 := hW2.cell 11
  simp only [pkZ, pkL, List.getElem?_toArray, List.getElem?_cons_zero, List.getElem?_cons_succ] at c0 c1 c2 c3 c4 c5 c6 c7 c8 c9 c10 c11
  go_wp2_with fail
  exact bodyPost_ret (v := .tuple #[.agg (pkL 4 (s.extract 12 16) (s.extract 16 20) N9 N8 N1 N4 F8 F9 0 (s.extract 20 n) (s.extract n s.size)), .int .i64 0]) (four_results _ _ w.heap.size rfl rfl (set12 hW2 _ _ _ _ _ _ _ _ _ _ _ _)) rfl ⟨rfl, below12 hV2 (Nat.le_refl _) _ _ _ _ _ _ _ _ _ _ _ _⟩
end Go.Proofs.Ytalkpllmcigjnaa
namespace Go.Proofs.Ytalkpllmcigjnaa


theorem dec_big (l : List UInt8) : dec l true = val l.reverse := by simp [dec]
theorem enc_big (v n : Nat) : enc v n true = (digs v n).reverse := by simp [enc]
theorem digs_val : ∀ (l : List UInt8), digs (val l) l.length = l
  | [] => rfl
  | c :: l => by
    have h1 : (c.toNat + 256 * val l) / 256 = val l := by have := c.toNat_lt; omega
    have h2 : UInt8.ofNat (c.toNat + 256 * val l) = c := by
      apply UInt8.toNat_inj.1
      rw [UInt8.toNat_ofNat']
      have := c.toNat_lt
      omega
    show digs (val (c :: l)) (l.length + 1) = c :: l
    simp only [digs, val]
    rw [h1, h2, digs_val l]
theorem enc_dec (l : List UInt8) (n : Nat) (h : l.length = n) : enc (dec l true) n true = l := by
  rw [dec_big, enc_big, ← h, ← List.length_reverse, digs_val, List.reverse_reverse]
theorem lst_bs (v : Int) (n : Nat) : lst (bs v n) = enc v.toNat n true := by simp [lst, bs]
theorem nat_lst (s : ByteArray) (a n : Nat) : nat s a n = dec (((lst s).drop a).take n) true := rfl
theorem bs_nat (s : ByteArray) (a n : Nat) (h : a + n ≤ s.size) : lst (bs (nat s a n) n) = ((lst s).drop a).take n := by
  rw [lst_bs, nat_lst, Int.toNat_natCast, enc_dec]
  rw [List.length_take, List.length_drop, lst_len]; omega
theorem nat_bs (v : Int) (n : Nat) (h0 : 0 ≤ v) (h1 : v < 256 ^ n) : (dec (lst (bs v n)) true : Int) = v := by
  rw [lst_bs, dec_enc _ _ _ (by
    have e : ((256 ^ n : Nat) : Int) = 256 ^ n := pow_cast n
    omega)]
  omega
theorem cut_here (s : ByteArray) (a n : Nat) : lst (s.extract a (a + n)) = ((lst s).drop a).take n := by
  rw [lst_cut]; congr 1; omega
/-- The sum of a head, as the document looks at it. -/
theorem sum_iff (s : ByteArray) (n : Nat) (h1 : 20 ≤ n) (h2 : n ≤ s.size) : sumd (s.extract 0 n) = s.extract 0 n ↔ (65535 - onS 0 (s.extract 0 10 ++ ⟨#[0, 0]⟩ ++ s.extract 12 n) : Int) = (nat s 10 2 : Int) := by
  have hb : blank (s.extract 0 n) = s.extract 0 10 ++ ⟨#[0, 0]⟩ ++ s.extract 12 n := by
    apply lst_inj
    unfold blank
    have e : bs 0 2 = ⟨#[0, 0]⟩ := by decide
    rw [e]
    simp only [lst_app, lst_cut, ByteArray.size_extract, List.drop_zero]
    rw [List.take_take, List.drop_take, List.take_take]
    congr 3 <;> omega
  generalize hB : s.extract 0 10 ++ ⟨#[0, 0]⟩ ++ s.extract 12 n = B at *
  have hr := onS_range B 0 (by omega) (by omega)
  generalize hx : (65535 - onS 0 B : Int) = x at *
  have e1 : lst (sumd (s.extract 0 n)) = (lst s).take 10 ++ (lst (bs x 2) ++ ((lst s).drop 12).take (n - 12)) := by
    unfold sumd
    rw [hb, hx]
    have l10 : ((lst s).take 10).length = 10 := by rw [List.length_take, lst_len]; omega
    have hl : lst B = (lst s).take 10 ++ ([0, 0] ++ ((lst s).drop 12).take (n - 12)) := by
      rw [← hB, lst_app, lst_app, lst_cut, lst_cut, List.append_assoc]; rfl
    have hz : B.size = n := by rw [← lst_len, hl]; simp [lst_len]; omega
    simp only [lst_app, lst_cut, List.drop_zero, Nat.sub_zero, List.append_assoc]
    rw [hl, take_of l10, hz]
    congr 2
    have e3 : ((lst s).take 10 ++ (([0, 0] : List UInt8) ++ ((lst s).drop 12).take (n - 12))).drop 12 = ((lst s).drop 12).take (n - 12) := by
      rw [← List.append_assoc, drop_of (by simp [lst_len]; omega)]
    rw [e3]
    rw [List.take_take, Nat.min_self]
  have e2 : lst (s.extract 0 n) = (lst s).take 10 ++ (((lst s).drop 10).take 2 ++ ((lst s).drop 12).take (n - 12)) := by
    rw [lst_cut, List.drop_zero, Nat.sub_zero]
    conv => lhs; rw [show n = 10 + (2 + (n - 12)) by omega, List.take_add, List.take_add, List.drop_drop]
  constructor
  · intro h
    have h3 := congrArg lst h
    rw [e1, e2] at h3
    have h4 := List.append_cancel_left h3
    have h5 := congrArg (List.take 2) h4
    rw [take_of (by rw [lst_bs, enc_length]), take_of (by rw [List.length_take, List.length_drop, lst_len]; omega)] at h5
    have h6 := nat_bs x 2 (by omega) (by omega)
    rw [h5] at h6
    exact h6.symm
  · intro h
    apply lst_inj
    rw [e1, e2, h, bs_nat s 10 2 (by omega)]
end Go.Proofs.Ytalkpllmcigjnaa
namespace Go.Proofs.Ytalkpllmcigjnaa
open Go.RowKit

theorem nil_sz (s : ByteArray) : (s.toList == []) = true ↔ s.size = 0 := by
  rw [beq_iff_eq, ByteArray.toList_eq]
  constructor
  · intro h
    have := congrArg List.length h
    simpa using this
  · intro h
    exact List.length_eq_zero_iff.1 (by simpa using h)
set_option maxRecDepth 100000 in
set_option maxHeartbeats 1600000 in
theorem refp_empty (s : ByteArray) (w : World) (hs : s.size ≤ 281474976710656) (h : s = ⟨#[]⟩) :
    Calls Try.prog 35 #[.string s] w (Answers w pkZ 70) := by
  subst h
  go_enter Try.func35, Try.ntmps35
  go_wp2_with fail
  exact bodyPost_ret (v := .tuple #[.agg pkZ, .int .i64 70]) (refp_results _ _ w.heap.size rfl rfl (Blk.new w 36 _)) rfl ⟨rfl, ((Below.refl _ _).alloc (Nat.le_refl _) _)⟩
set_option maxRecDepth 100000 in
set_option maxHeartbeats 1600000 in
theorem refp_four (s : ByteArray) (w : World) (hs : s.size ≤ 281474976710656) (h : 1 ≤ s.size) (C : Nat) (hC : nat s 0 1 = C) (h4 : C / 16 = 4) (v : Int) (src dst : ByteArray) (proto hops cls id flags off label : Int) (opt body : ByteArray) (n : Int) (A : ∀ W, Calls Try.prog 75 #[.string s] W (Answers W (pkL v src dst proto hops cls id flags off label opt body) n)) :
    Calls Try.prog 35 #[.string s] w (Answers w (pkL v src dst proto hops cls id flags off label opt body) n) := by
  unfold Answers at A
  simp only [pkL] at A
  have HA := Lib.hid A
  clear A
  obtain ⟨hc, hl⟩ := b0_is s C h hC
  have t1 : (C : Int).tdiv 16 = (C / 16 : Nat) := by rw [Int.tdiv_eq_ediv_of_nonneg (by omega)]; omega
  have t0 : C / 16 < 16 := by omega
  generalize C / 16 = D at *
  have hne : (s.toList == []) = false := by
    cases hb : (s.toList == [])
    · rfl
    · exact absurd ((nil_sz s).1 hb) (by omega)
  subst h4
  go_enter Try.func35, Try.ntmps35
  go_wp2_with fail
  refine (HA.out _).mono ?_
  rintro e w1 ⟨rfl, hq⟩
  have hS := (Held.new w 36 pkZ).next hq
  clear hq
  have fr := hS.blk.frozen
  have c0 := hS.blk.cell 0
  have c1 := hS.blk.cell 1
  have c2 := hS.blk.cell 2
  have c3 := hS.blk.cell 3
  have c4 := hS.blk.cell 4
  have c5 := hS.blk.cell 5
  have c6 := hS.blk.cell 6
  have c7 := hS.blk.cell 7
  have c8 := hS.blk.cell 8
  have c9 := hS.blk.cell 9
  have c10 := hS.blk.cell 10
  have c11 := hS.blk.cell 11
  simp only [pkZ, pkL, List.getElem?_toArray, List.getElem?_cons_zero, List.getElem?_cons_succ] at c0 c1 c2 c3 c4 c5 c6 c7 c8 c9 c10 c11
  go_wp2_with fail
  exact bodyPost_ret (v := .tuple #[.agg (pkL v src dst proto hops cls id flags off label opt body), .int .i64 n]) (refp_results _ _ w.heap.size rfl rfl (set12 hS.blk _ _ _ _ _ _ _ _ _ _ _ _)) rfl ⟨rfl, below12 hS.below (Nat.le_refl _) _ _ _ _ _ _ _ _ _ _ _ _⟩
set_option maxRecDepth 100000 in
set_option maxHeartbeats 1600000 in
theorem refp_other (s : ByteArray) (w : World) (hs : s.size ≤ 281474976710656) (h : 1 ≤ s.size) (C : Nat) (hC : nat s 0 1 = C) (h4 : C / 16 ≠ 4) (h6 : C / 16 ≠ 6) :
    Calls Try.prog 35 #[.string s] w (Answers w pkZ 71) := by
  obtain ⟨hc, hl⟩ := b0_is s C h hC
  have t1 : (C : Int).tdiv 16 = (C / 16 : Nat) := by rw [Int.tdiv_eq_ediv_of_nonneg (by omega)]; omega
  have t0 : C / 16 < 16 := by omega
  generalize C / 16 = D at *
  have hne : (s.toList == []) = false := by
    cases hb : (s.toList == [])
    · rfl
    · exact absurd ((nil_sz s).1 hb) (by omega)
  have e4 : ((D : Int) == 4) = false := by simpa using (by omega : (D : Int) ≠ 4)
  have e6 : ((D : Int) != 6) = true := by simpa using (by omega : (D : Int) ≠ 6)
  clear h4 h6
  go_enter Try.func35, Try.ntmps35
  go_wp2_with fail
  exact bodyPost_ret (v := .tuple #[.agg pkZ, .int .i64 71]) (refp_results _ _ w.heap.size rfl rfl (Blk.new w 36 _)) rfl ⟨rfl, ((Below.refl _ _).alloc (Nat.le_refl _) _)⟩
set_option maxRecDepth 100000 in
set_option maxHeartbeats 1600000 in
theorem refp_less (s : ByteArray) (w : World) (hs : s.size ≤ 281474976710656) (h : 1 ≤ s.size) (C : Nat) (hC : nat s 0 1 = C) (h6 : C / 16 = 6) (h1 : s.size < 40) :
    Calls Try.prog 35 #[.string s] w (Answers w pkZ 70) := by
  obtain ⟨hc, hl⟩ := b0_is s C h hC
  have t1 : (C : Int).tdiv 16 = (C / 16 : Nat) := by rw [Int.tdiv_eq_ediv_of_nonneg (by omega)]; omega
  have t0 : C / 16 < 16 := by omega
  generalize C / 16 = D at *
  have hne : (s.toList == []) = false := by
    cases hb : (s.toList == [])
    · rfl
    · exact absurd ((nil_sz s).1 hb) (by omega)
  subst h6
  go_enter Try.func35, Try.ntmps35
  go_wp2_with fail
  exact bodyPost_ret (v := .tuple #[.agg pkZ, .int .i64 70]) (refp_results _ _ w.heap.size rfl rfl (Blk.new w 36 _)) rfl ⟨rfl, ((Below.refl _ _).alloc (Nat.le_refl _) _)⟩
set_option maxRecDepth 100000 in
set_option maxHeartbeats 1600000 in
theorem refp_form (s : ByteArray) (w : World) (hs : s.size ≤ 281474976710656) (C : Nat) (hC : nat s 0 1 = C) (h6 : C / 16 = 6) (h1 : 40 ≤ s.size) (h2 : nat s 4 2 + 40 ≠ s.size) :
    Calls Try.prog 35 #[.string s] w (Answers w pkZ 71) := by
  have h : 1 ≤ s.size := by omega
  obtain ⟨hc, hl⟩ := b0_is s C h hC
  have t1 : (C : Int).tdiv 16 = (C / 16 : Nat) := by rw [Int.tdiv_eq_ediv_of_nonneg (by omega)]; omega
  have t0 : C / 16 < 16 := by omega
  generalize C / 16 = D at *
  have hne : (s.toList == []) = false := by
    cases hb : (s.toList == [])
    · rfl
    · exact absurd ((nil_sz s).1 hb) (by omega)
  subst h6
  have N : ∀ W, Calls Try.prog 76 #[.string s, .int .i64 4, .int .i64 2] W fun e w' => e = .returned (.int .i64 (nat s 4 2)) ∧ W = w' := fun W => num7_any s 4 2 W (by unfold maxLen; omega) (by omega) (by omega) (by omega)
  have HN := Lib.hid N
  clear N
  have F2 := nat_lt s 4 2
  have u1 : ¬ (s.size : Int) < 40 := by omega
  generalize nat s 4 2 = F at *
  have e6 : ((F : Int) != (s.size : Int) - 40) = true := by simpa using (by omega : (F : Int) ≠ (s.size : Int) - 40)
  clear h2 F2
  go_enter Try.func35, Try.ntmps35
  go_wp2_with (go_at_call 76; (with_reducible refine (HN.out _).mono ?_); rintro e w' ⟨rfl, rfl⟩)
  exact bodyPost_ret (v := .tuple #[.agg pkZ, .int .i64 71]) (refp_results _ _ w.heap.size rfl rfl (Blk.new w 36 _)) rfl ⟨rfl, ((Below.refl _ _).alloc (Nat.le_refl _) _)⟩
set_option maxRecDepth 100000 in
set_option maxHeartbeats 1600000 in
theorem refp_six (s : ByteArray) (w : World) (hs : s.size ≤ 281474976710656) (C : Nat) (hC : nat s 0 1 = C) (h6 : C / 16 = 6) (h1 : 40 ≤ s.size) (h2 : nat s 4 2 + 40 = s.size) (A B : Nat) (eA : A = nat s 0 4 / 1048576 % 256) (eB : B = nat s 0 4 % 1048576) :
    Calls Try.prog 35 #[.string s] w (Answers w (pkL 6 (s.extract 8 24) (s.extract 24 40) (nat s 6 1) (nat s 7 1) A 0 0 0 B ⟨#[]⟩ (s.extract 40 s.size)) 0) := by
  have h : 1 ≤ s.size := by omega
  obtain ⟨hc, hl⟩ := b0_is s C h hC
  have t1 : (C : Int).tdiv 16 = (C / 16 : Nat) := by rw [Int.tdiv_eq_ediv_of_nonneg (by omega)]; omega
  have t0 : C / 16 < 16 := by omega
  generalize C / 16 = D at *
  have hne : (s.toList == []) = false := by
    cases hb : (s.toList == [])
    · rfl
    · exact absurd ((nil_sz s).1 hb) (by omega)
  subst h6
  have N : ∀ W, Calls Try.prog 76 #[.string s, .int .i64 4, .int .i64 2] W fun e w' => e = .returned (.int .i64 (nat s 4 2)) ∧ W = w' := fun W => num7_any s 4 2 W (by unfold maxLen; omega) (by omega) (by omega) (by omega)
  have HN := Lib.hid N
  clear N
  have F2 := nat_lt s 4 2
  have u1 : ¬ (s.size : Int) < 40 := by omega
  have T : ∀ W, Calls Try.prog 76 #[.string s, .int .i64 0, .int .i64 4] W fun e w' => e = .returned (.int .i64 (nat s 0 4)) ∧ W = w' := fun W => num7_any s 0 4 W (by unfold maxLen; omega) (by omega) (by omega) (by omega)
  have HT := Lib.hid T
  clear T
  have q6 : 6 < s.size := by omega
  have q7 : 7 < s.size := by omega
  have k6 := byte_is s 6 q6
  have k7 := byte_is s 7 q7
  have l6 := nat_lt s 6 1
  have l7 := nat_lt s 7 1
  have l0 := nat_lt s 0 4
  generalize nat s 6 1 = N6 at *
  generalize nat s 7 1 = N7 at *
  generalize nat s 0 4 = G at *
  have z0 : G / 1048576 < 4096 := by omega
  have z1 : (G : Int).tdiv 1048576 = ((G / 1048576 : Nat) : Int) := by rw [Int.tdiv_eq_ediv_of_nonneg (by omega)]; omega
  have z2 : (G : Int).tmod 1048576 = (B : Int) := by rw [Int.tmod_eq_emod_of_nonneg (by omega)]; omega
  have z5 : B < 1048576 := by omega
  generalize G / 1048576 = G1 at *
  have z3 : (G1 : Int).tmod 256 = (A : Int) := by rw [Int.tmod_eq_emod_of_nonneg (by omega)]; omega
  have z6 : (G1 : Int) % 256 = (A : Int) := by omega
  have z4 : A < 256 := by omega
  clear eA eB
  generalize nat s 4 2 = F at *
  have e6 : ((F : Int) != (s.size : Int) - 40) = false := by simpa using (by omega : (F : Int) = (s.size : Int) - 40)
  clear h2 F2
  have H0 := Lib.hid l0
  have H1 := Lib.hid z5
  clear l0 z5
  go_enter Try.func35, Try.ntmps35
  go_wp2_with (first | (go_at_call 76; (with_reducible refine (HN.out _).mono ?_); rintro e w' ⟨rfl, rfl⟩) | (go_at_call 76; (with_reducible refine (HT.out _).mono ?_); rintro e w' ⟨rfl, rfl⟩))
  clear HN HT e6 u1
  have v1 : (6 : Int) < s.size := by omega
  have v2 : (7 : Int) < s.size := by omega
  have v3 : (24 : Int) ≤ s.size := by omega
  have v4 : (40 : Int) ≤ s.size := by omega
  have v5 : 6 < s.size := by omega
  have v6 : 7 < s.size := by omega
  have v7 : 24 ≤ s.size := by omega
  have v8 : ¬ (s.size : Int) < 24 := by omega
  have v9 : ¬ (s.size : Int) < 40 := by omega
  have hW : Blk (w.alloc (.cells pkZ 36)) w.heap.size 36 pkZ := Blk.new w 36 _
  have hV : Below w.heap.size w (w.alloc (.cells pkZ 36)) := ((Below.refl _ _).alloc (Nat.le_refl _) _)
  change Code.wp _ _ _ _ (w.alloc (.cells pkZ 36))
  generalize w.alloc (.cells pkZ 36) = W0 at *
  have l0 := H0.out
  have z5 := H1.out
  go_still_tail 18, (by kernel_rfl)
  change wpList _ _ _ _ _ W0.drew
  have hW2 : Blk W0.drew w.heap.size 36 pkZ := hW
  have hV2 : Below w.heap.size w W0.drew := hV.drew
  generalize W0.drew = W1 at *
  clear hW hV l0 z5
  have fr := hW2.frozen
  have c0 := hW2.cell 0
  have c1 := hW2.cell 1
  have c2 := hW2.cell 2
  have c3 := hW2.cell 3
  have c4 := hW2.cell 4
  have c5 := hW2.cell 5
  have c6 := hW2.cell 6
  have c7 := hW2.cell 7
  have c8 := hW2.cell 8
  have c9 := hW2.cell 9
  have c10 := hW2.cell 10
  have c11 := hW2.cell 11
  simp only [pkZ, pkL, List.getElem?_toArray, List.getElem?_cons_zero, List.getElem?_cons_succ] at c0 c1 c2 c3 c4 c5 c6 c7 c8 c9 c10 c11
  go_wp2_with fail
  exact bodyPost_ret (v := .tuple #[.agg (pkL 6 (s.extract 8 24) (s.extract 24 40) N6 N7 A 0 0 0 B ⟨#[]⟩ (s.extract 40 s.size)), .int .i64 0]) (refp_results _ _ w.heap.size rfl rfl (set12 hW2 _ _ _ _ _ _ _ _ _ _ _ _)) rfl ⟨rfl, below12 hV2 (Nat.le_refl _) _ _ _ _ _ _ _ _ _ _ _ _⟩
theorem refp_any (s : ByteArray) (w : World) (hsz : s.size ≤ 281474976710656) :
    Calls Try.prog 35 #[.string s] w fun e w' => e = .returned (.tuple #[(ipP s).val, .int .i64 (ipE s)]) ∧ Below w.heap.size w w' := by
  by_cases h1 : s.size < 1
  · have e1 : ipE s = 70 := by rw [ipE, if_pos h1]
    have h0 : s = ⟨#[]⟩ := by
      apply lst_inj
      exact List.length_eq_zero_iff.1 (by rw [lst_len]; omega)
    exact (refp_empty s w hsz h0).mono fun e w' h => ip_say (p := .zero) h (by rw [ipP, e1]; rfl) e1
  have h1' : 1 ≤ s.size := by omega
  by_cases h4 : nat s 0 1 / 16 = 4
  · have F := refp_four s w hsz h1' _ rfl h4
    by_cases a : short4 s
    · have e1 : ipE s = 70 := by rw [ipE, if_neg h1, if_pos h4, if_pos a]
      refine (F _ _ _ _ _ _ _ _ _ _ _ _ _ (fun W => four_short s W h1' hsz _ rfl a)).mono fun e w' h => ip_say (p := .zero) h (by rw [ipP, e1]; rfl) e1
    have a' : 20 ≤ s.size ∧ n4 s ≤ s.size := by unfold short4 at a; omega
    by_cases b : form4 s
    · by_cases c : sum4 s
      · have e1 : ipE s = 0 := by rw [ipE, if_neg h1, if_pos h4, if_neg a, if_pos b, if_pos c]
        have hc := (sum_iff s (n4 s) b.1 a'.2).1 c
        refine (F _ _ _ _ _ _ _ _ _ _ _ _ _ (fun W => four_good s W h1' hsz _ rfl a' b (by show ((65535 - onS 0 (s.extract 0 10 ++ ⟨#[0, 0]⟩ ++ s.extract 12 (n4 s)) : Int) != (nat s 10 2 : Int)) = false; rw [hc]; simp) _ rfl _ rfl)).mono fun e w' h => ip_say (p := pk4 s) (h.to ?_ rfl) (by rw [ipP, if_pos e1, if_pos h4]) e1
        simp only [pkL, pkC, pk4]
        rfl
      · have e1 : ipE s = 72 := by rw [ipE, if_neg h1, if_pos h4, if_neg a, if_pos b, if_neg c]
        have hc := fun x => c ((sum_iff s (n4 s) b.1 a'.2).2 x)
        refine (F _ _ _ _ _ _ _ _ _ _ _ _ _ (fun W => four_sum s W h1' hsz _ rfl a' b (by show ((65535 - onS 0 (s.extract 0 10 ++ ⟨#[0, 0]⟩ ++ s.extract 12 (n4 s)) : Int) != (nat s 10 2 : Int)) = true; simpa using hc))).mono fun e w' h => ip_say (p := .zero) h (by rw [ipP, e1]; rfl) e1
    · have e1 : ipE s = 71 := by rw [ipE, if_neg h1, if_pos h4, if_neg a, if_neg b]
      refine (F _ _ _ _ _ _ _ _ _ _ _ _ _ (fun W => four_form s W h1' hsz _ rfl a' b)).mono fun e w' h => ip_say (p := .zero) h (by rw [ipP, e1]; rfl) e1
  by_cases h6 : nat s 0 1 / 16 = 6
  · by_cases a : s.size < 40
    · have e1 : ipE s = 70 := by rw [ipE, if_neg h1, if_neg h4, if_pos h6, if_pos a]
      exact (refp_less s w hsz h1' _ rfl h6 a).mono fun e w' h => ip_say (p := .zero) h (by rw [ipP, e1]; rfl) e1
    by_cases b : form6 s
    · have e1 : ipE s = 0 := by rw [ipE, if_neg h1, if_neg h4, if_pos h6, if_neg a, if_pos b]
      refine (refp_six s w hsz _ rfl h6 (by omega) b _ _ rfl rfl).mono fun e w' h => ip_say (p := pk6 s) (h.to ?_ rfl) (by rw [ipP, if_pos e1, if_neg h4]) e1
      simp only [pkL, pkC, pk6]
      rfl
    · have e1 : ipE s = 71 := by rw [ipE, if_neg h1, if_neg h4, if_pos h6, if_neg a, if_neg b]
      exact (refp_form s w hsz _ rfl h6 (by omega) b).mono fun e w' h => ip_say (p := .zero) h (by rw [ipP, e1]; rfl) e1
  · have e1 : ipE s = 71 := by rw [ipE, if_neg h1, if_neg h4, if_neg h6]
    exact (refp_other s w hsz h1' _ rfl h4 h6).mono fun e w' h => ip_say (p := .zero) h (by rw [ipP, e1]; rfl) e1
end Go.Proofs.Ytalkpllmcigjnaa

/-
  What the document's Parse of a packet answers, for every string: the packet, or why there is none.
-/
import Derived.Test.YtpjndjmneficbaaRim
namespace Go.Proofs.Ytpjndjmneficbaa
open Go.RowKit

theorem nil_sz (s : ByteArray) : (s.toList == []) = true ↔ s.size = 0 := by
  rw [beq_iff_eq, ByteArray.toList_eq]
  constructor
  · intro h
    have := congrArg List.length h
    simpa using this
  · intro h
    exact List.length_eq_zero_iff.1 (by simpa using h)
set_option maxRecDepth 100000 in
set_option maxHeartbeats 1600000 in
theorem refp_empty (s : ByteArray) (w : World) (hs : s.size ≤ 281474976710656) (h : s = ⟨#[]⟩) :
    Calls Try.prog 41 #[.string s] w (Answers w pkZ 70) := by
  subst h
  go_enter Try.func41, Try.ntmps41
  go_wp2_with fail
  exact bodyPost_ret (v := .tuple #[.agg pkZ, .int .i64 70]) (refp_results _ _ w.heap.size rfl rfl (Blk.new w 56 _)) rfl ⟨rfl, ((Below.refl _ _).alloc (Nat.le_refl _) _)⟩
set_option maxRecDepth 100000 in
set_option maxHeartbeats 1600000 in
theorem refp_four (s : ByteArray) (w : World) (hs : s.size ≤ 281474976710656) (h : 1 ≤ s.size) (C : Nat) (hC : nat s 0 1 = C) (h4 : C / 16 = 4) (v : Int) (src dst : ByteArray) (proto hops cls id flags off label : Int) (opt body : ByteArray) (n : Int) (A : ∀ W, Calls Try.prog 57 #[.string s] W (Answers W (pkL v src dst proto hops cls id flags off label opt body) n)) :
    Calls Try.prog 41 #[.string s] w (Answers w (pkL v src dst proto hops cls id flags off label opt body) n) := by
  unfold Answers at A
  simp only [pkL] at A
  have HA := Lib.hid A
  clear A
  obtain ⟨hc, hl⟩ := b0_is s C h hC
  have t1 : (C : Int).tdiv 16 = (C / 16 : Nat) := by rw [Int.tdiv_eq_ediv_of_nonneg (by omega)]; omega
  have t0 : C / 16 < 16 := by omega
  generalize C / 16 = D at *
  have hne : (s.toList == []) = false := by
    cases hb : (s.toList == [])
    · rfl
    · exact absurd ((nil_sz s).1 hb) (by omega)
  subst h4
  go_enter Try.func41, Try.ntmps41
  go_wp2_with fail
  refine (HA.out _).mono ?_
  rintro e w1 ⟨rfl, hq⟩
  have hS := (Held.new w 56 pkZ).next hq
  clear hq
  have fr := hS.blk.frozen
  have c0 := hS.blk.cell 0
  have c1 := hS.blk.cell 1
  have c2 := hS.blk.cell 2
  have c3 := hS.blk.cell 3
  have c4 := hS.blk.cell 4
  have c5 := hS.blk.cell 5
  have c6 := hS.blk.cell 6
  have c7 := hS.blk.cell 7
  have c8 := hS.blk.cell 8
  have c9 := hS.blk.cell 9
  have c10 := hS.blk.cell 10
  have c11 := hS.blk.cell 11
  simp only [pkZ, pkL, List.getElem?_toArray, List.getElem?_cons_zero, List.getElem?_cons_succ] at c0 c1 c2 c3 c4 c5 c6 c7 c8 c9 c10 c11
  go_wp2_with fail
  exact bodyPost_ret (v := .tuple #[.agg (pkL v src dst proto hops cls id flags off label opt body), .int .i64 n]) (refp_results _ _ w.heap.size rfl rfl (set12 hS.blk _ _ _ _ _ _ _ _ _ _ _ _)) rfl ⟨rfl, below12 hS.below (Nat.le_refl _) _ _ _ _ _ _ _ _ _ _ _ _⟩
set_option maxRecDepth 100000 in
set_option maxHeartbeats 1600000 in
theorem refp_other (s : ByteArray) (w : World) (hs : s.size ≤ 281474976710656) (h : 1 ≤ s.size) (C : Nat) (hC : nat s 0 1 = C) (h4 : C / 16 ≠ 4) (h6 : C / 16 ≠ 6) :
    Calls Try.prog 41 #[.string s] w (Answers w pkZ 71) := by
  obtain ⟨hc, hl⟩ := b0_is s C h hC
  have t1 : (C : Int).tdiv 16 = (C / 16 : Nat) := by rw [Int.tdiv_eq_ediv_of_nonneg (by omega)]; omega
  have t0 : C / 16 < 16 := by omega
  generalize C / 16 = D at *
  have hne : (s.toList == []) = false := by
    cases hb : (s.toList == [])
    · rfl
    · exact absurd ((nil_sz s).1 hb) (by omega)
  have e4 : ((D : Int) == 4) = false := by simpa using (by omega : (D : Int) ≠ 4)
  have e6 : ((D : Int) != 6) = true := by simpa using (by omega : (D : Int) ≠ 6)
  clear h4 h6
  go_enter Try.func41, Try.ntmps41
  go_wp2_with fail
  exact bodyPost_ret (v := .tuple #[.agg pkZ, .int .i64 71]) (refp_results _ _ w.heap.size rfl rfl (Blk.new w 56 _)) rfl ⟨rfl, ((Below.refl _ _).alloc (Nat.le_refl _) _)⟩
set_option maxRecDepth 100000 in
set_option maxHeartbeats 1600000 in
theorem refp_less (s : ByteArray) (w : World) (hs : s.size ≤ 281474976710656) (h : 1 ≤ s.size) (C : Nat) (hC : nat s 0 1 = C) (h6 : C / 16 = 6) (h1 : s.size < 40) :
    Calls Try.prog 41 #[.string s] w (Answers w pkZ 70) := by
  obtain ⟨hc, hl⟩ := b0_is s C h hC
  have t1 : (C : Int).tdiv 16 = (C / 16 : Nat) := by rw [Int.tdiv_eq_ediv_of_nonneg (by omega)]; omega
  have t0 : C / 16 < 16 := by omega
  generalize C / 16 = D at *
  have hne : (s.toList == []) = false := by
    cases hb : (s.toList == [])
    · rfl
    · exact absurd ((nil_sz s).1 hb) (by omega)
  subst h6
  go_enter Try.func41, Try.ntmps41
  go_wp2_with fail
  exact bodyPost_ret (v := .tuple #[.agg pkZ, .int .i64 70]) (refp_results _ _ w.heap.size rfl rfl (Blk.new w 56 _)) rfl ⟨rfl, ((Below.refl _ _).alloc (Nat.le_refl _) _)⟩
set_option maxRecDepth 100000 in
set_option maxHeartbeats 1600000 in
theorem refp_form (s : ByteArray) (w : World) (hs : s.size ≤ 281474976710656) (C : Nat) (hC : nat s 0 1 = C) (h6 : C / 16 = 6) (h1 : 40 ≤ s.size) (h2 : nat s 4 2 + 40 ≠ s.size) :
    Calls Try.prog 41 #[.string s] w (Answers w pkZ 71) := by
  have h : 1 ≤ s.size := by omega
  obtain ⟨hc, hl⟩ := b0_is s C h hC
  have t1 : (C : Int).tdiv 16 = (C / 16 : Nat) := by rw [Int.tdiv_eq_ediv_of_nonneg (by omega)]; omega
  have t0 : C / 16 < 16 := by omega
  generalize C / 16 = D at *
  have hne : (s.toList == []) = false := by
    cases hb : (s.toList == [])
    · rfl
    · exact absurd ((nil_sz s).1 hb) (by omega)
  subst h6
  have N : ∀ W, Calls Try.prog 58 #[.string s, .int .i64 4, .int .i64 2] W fun e w' => e = .returned (.int .i64 (nat s 4 2)) ∧ W = w' := fun W => num7_any s 4 2 W (by unfold maxLen; omega) (by omega) (by omega) (by omega)
  have HN := Lib.hid N
  clear N
  have F2 := nat_lt s 4 2
  have u1 : ¬ (s.size : Int) < 40 := by omega
  generalize nat s 4 2 = F at *
  have e6 : ((F : Int) != (s.size : Int) - 40) = true := by simpa using (by omega : (F : Int) ≠ (s.size : Int) - 40)
  clear h2 F2
  go_enter Try.func41, Try.ntmps41
  go_wp2_with (go_at_call 58; (with_reducible refine (HN.out _).mono ?_); rintro e w' ⟨rfl, rfl⟩)
  exact bodyPost_ret (v := .tuple #[.agg pkZ, .int .i64 71]) (refp_results _ _ w.heap.size rfl rfl (Blk.new w 56 _)) rfl ⟨rfl, ((Below.refl _ _).alloc (Nat.le_refl _) _)⟩
set_option maxRecDepth 100000 in
set_option maxHeartbeats 1600000 in
theorem refp_six (s : ByteArray) (w : World) (hs : s.size ≤ 281474976710656) (C : Nat) (hC : nat s 0 1 = C) (h6 : C / 16 = 6) (h1 : 40 ≤ s.size) (h2 : nat s 4 2 + 40 = s.size) (A B : Nat) (eA : A = nat s 0 4 / 1048576 % 256) (eB : B = nat s 0 4 % 1048576) :
    Calls Try.prog 41 #[.string s] w (Answers w (pkL 6 (s.extract 8 24) (s.extract 24 40) (nat s 6 1) (nat s 7 1) A 0 0 0 B ⟨#[]⟩ (s.extract 40 s.size)) 0) := by
  have h : 1 ≤ s.size := by omega
  obtain ⟨hc, hl⟩ := b0_is s C h hC
  have t1 : (C : Int).tdiv 16 = (C / 16 : Nat) := by rw [Int.tdiv_eq_ediv_of_nonneg (by omega)]; omega
  have t0 : C / 16 < 16 := by omega
  generalize C / 16 = D at *
  have hne : (s.toList == []) = false := by
    cases hb : (s.toList == [])
    · rfl
    · exact absurd ((nil_sz s).1 hb) (by omega)
  subst h6
  have N : ∀ W, Calls Try.prog 58 #[.string s, .int .i64 4, .int .i64 2] W fun e w' => e = .returned (.int .i64 (nat s 4 2)) ∧ W = w' := fun W => num7_any s 4 2 W (by unfold maxLen; omega) (by omega) (by omega) (by omega)
  have HN := Lib.hid N
  clear N
  have F2 := nat_lt s 4 2
  have u1 : ¬ (s.size : Int) < 40 := by omega
  have T : ∀ W, Calls Try.prog 58 #[.string s, .int .i64 0, .int .i64 4] W fun e w' => e = .returned (.int .i64 (nat s 0 4)) ∧ W = w' := fun W => num7_any s 0 4 W (by unfold maxLen; omega) (by omega) (by omega) (by omega)
  have HT := Lib.hid T
  clear T
  have q6 : 6 < s.size := by omega
  have q7 : 7 < s.size := by omega
  have k6 := byte_is s 6 q6
  have k7 := byte_is s 7 q7
  have l6 := nat_lt s 6 1
  have l7 := nat_lt s 7 1
  have l0 := nat_lt s 0 4
  generalize nat s 6 1 = N6 at *
  generalize nat s 7 1 = N7 at *
  generalize nat s 0 4 = G at *
  have z0 : G / 1048576 < 4096 := by omega
  have z1 : (G : Int).tdiv 1048576 = ((G / 1048576 : Nat) : Int) := by rw [Int.tdiv_eq_ediv_of_nonneg (by omega)]; omega
  have z2 : (G : Int).tmod 1048576 = (B : Int) := by rw [Int.tmod_eq_emod_of_nonneg (by omega)]; omega
  have z5 : B < 1048576 := by omega
  generalize G / 1048576 = G1 at *
  have z3 : (G1 : Int).tmod 256 = (A : Int) := by rw [Int.tmod_eq_emod_of_nonneg (by omega)]; omega
  have z6 : (G1 : Int) % 256 = (A : Int) := by omega
  have z4 : A < 256 := by omega
  clear eA eB
  generalize nat s 4 2 = F at *
  have e6 : ((F : Int) != (s.size : Int) - 40) = false := by simpa using (by omega : (F : Int) = (s.size : Int) - 40)
  clear h2 F2
  have H0 := Lib.hid l0
  have H1 := Lib.hid z5
  clear l0 z5
  go_enter Try.func41, Try.ntmps41
  go_wp2_with (first | (go_at_call 58; (with_reducible refine (HN.out _).mono ?_); rintro e w' ⟨rfl, rfl⟩) | (go_at_call 58; (with_reducible refine (HT.out _).mono ?_); rintro e w' ⟨rfl, rfl⟩))
  clear HN HT e6 u1
  have v1 : (6 : Int) < s.size := by omega
  have v2 : (7 : Int) < s.size := by omega
  have v3 : (24 : Int) ≤ s.size := by omega
  have v4 : (40 : Int) ≤ s.size := by omega
  have v5 : 6 < s.size := by omega
  have v6 : 7 < s.size := by omega
  have v7 : 24 ≤ s.size := by omega
  have v8 : ¬ (s.size : Int) < 24 := by omega
  have v9 : ¬ (s.size : Int) < 40 := by omega
  have hW : Blk (w.alloc (.cells pkZ 56)) w.heap.size 56 pkZ := Blk.new w 56 _
  have hV : Below w.heap.size w (w.alloc (.cells pkZ 56)) := ((Below.refl _ _).alloc (Nat.le_refl _) _)
  change Code.wp _ _ _ _ (w.alloc (.cells pkZ 56))
  generalize w.alloc (.cells pkZ 56) = W0 at *
  have l0 := H0.out
  have z5 := H1.out
  go_still_tail 18, (by kernel_rfl)
  change wpList _ _ _ _ _ W0.drew
  have hW2 : Blk W0.drew w.heap.size 56 pkZ := hW
  have hV2 : Below w.heap.size w W0.drew := hV.drew
  generalize W0.drew = W1 at *
  clear hW hV l0 z5
  have fr := hW2.frozen
  have c0 := hW2.cell 0
  have c1 := hW2.cell 1
  have c2 := hW2.cell 2
  have c3 := hW2.cell 3
  have c4 := hW2.cell 4
  have c5 := hW2.cell 5
  have c6 := hW2.cell 6
  have c7 := hW2.cell 7
  have c8 := hW2.cell 8
  have c9 := hW2.cell 9
  have c10 := hW2.cell 10
  have c11 := hW2.cell 11
  simp only [pkZ, pkL, List.getElem?_toArray, List.getElem?_cons_zero, List.getElem?_cons_succ] at c0 c1 c2 c3 c4 c5 c6 c7 c8 c9 c10 c11
  go_wp2_with fail
  exact bodyPost_ret (v := .tuple #[.agg (pkL 6 (s.extract 8 24) (s.extract 24 40) N6 N7 A 0 0 0 B ⟨#[]⟩ (s.extract 40 s.size)), .int .i64 0]) (refp_results _ _ w.heap.size rfl rfl (set12 hW2 _ _ _ _ _ _ _ _ _ _ _ _)) rfl ⟨rfl, below12 hV2 (Nat.le_refl _) _ _ _ _ _ _ _ _ _ _ _ _⟩
theorem refp_any (s : ByteArray) (w : World) (hsz : s.size ≤ 281474976710656) :
    Calls Try.prog 41 #[.string s] w fun e w' => e = .returned (.tuple #[(ipP s).val, .int .i64 (ipE s)]) ∧ Below w.heap.size w w' := by
  by_cases h1 : s.size < 1
  · have e1 : ipE s = 70 := by rw [ipE, if_pos h1]
    have h0 : s = ⟨#[]⟩ := by
      apply lst_inj
      exact List.length_eq_zero_iff.1 (by rw [lst_len]; omega)
    exact (refp_empty s w hsz h0).mono fun e w' h => ip_say (p := .zero) h (by rw [ipP, e1]; rfl) e1
  have h1' : 1 ≤ s.size := by omega
  by_cases h4 : nat s 0 1 / 16 = 4
  · have F := refp_four s w hsz h1' _ rfl h4
    by_cases a : short4 s
    · have e1 : ipE s = 70 := by rw [ipE, if_neg h1, if_pos h4, if_pos a]
      refine (F _ _ _ _ _ _ _ _ _ _ _ _ _ (fun W => four_short s W h1' hsz _ rfl a)).mono fun e w' h => ip_say (p := .zero) h (by rw [ipP, e1]; rfl) e1
    have a' : 20 ≤ s.size ∧ n4 s ≤ s.size := by unfold short4 at a; omega
    by_cases b : form4 s
    · by_cases c : sum4 s
      · have e1 : ipE s = 0 := by rw [ipE, if_neg h1, if_pos h4, if_neg a, if_pos b, if_pos c]
        have hc := (sum_iff s (n4 s) b.1 a'.2).1 c
        refine (F _ _ _ _ _ _ _ _ _ _ _ _ _ (fun W => four_good s W h1' hsz _ rfl a' b (by show ((65535 - onS 0 (s.extract 0 10 ++ ⟨#[0, 0]⟩ ++ s.extract 12 (n4 s)) : Int) != (nat s 10 2 : Int)) = false; rw [hc]; simp) _ rfl _ rfl)).mono fun e w' h => ip_say (p := pk4 s) (h.to ?_ rfl) (by rw [ipP, if_pos e1, if_pos h4]) e1
        simp only [pkL, pkC, pk4]
        rfl
      · have e1 : ipE s = 72 := by rw [ipE, if_neg h1, if_pos h4, if_neg a, if_pos b, if_neg c]
        have hc := fun x => c ((sum_iff s (n4 s) b.1 a'.2).2 x)
        refine (F _ _ _ _ _ _ _ _ _ _ _ _ _ (fun W => four_sum s W h1' hsz _ rfl a' b (by show ((65535 - onS 0 (s.extract 0 10 ++ ⟨#[0, 0]⟩ ++ s.extract 12 (n4 s)) : Int) != (nat s 10 2 : Int)) = true; simpa using hc))).mono fun e w' h => ip_say (p := .zero) h (by rw [ipP, e1]; rfl) e1
    · have e1 : ipE s = 71 := by rw [ipE, if_neg h1, if_pos h4, if_neg a, if_neg b]
      refine (F _ _ _ _ _ _ _ _ _ _ _ _ _ (fun W => four_form s W h1' hsz _ rfl a' b)).mono fun e w' h => ip_say (p := .zero) h (by rw [ipP, e1]; rfl) e1
  by_cases h6 : nat s 0 1 / 16 = 6
  · by_cases a : s.size < 40
    · have e1 : ipE s = 70 := by rw [ipE, if_neg h1, if_neg h4, if_pos h6, if_pos a]
      exact (refp_less s w hsz h1' _ rfl h6 a).mono fun e w' h => ip_say (p := .zero) h (by rw [ipP, e1]; rfl) e1
    by_cases b : form6 s
    · have e1 : ipE s = 0 := by rw [ipE, if_neg h1, if_neg h4, if_pos h6, if_neg a, if_pos b]
      refine (refp_six s w hsz _ rfl h6 (by omega) b _ _ rfl rfl).mono fun e w' h => ip_say (p := pk6 s) (h.to ?_ rfl) (by rw [ipP, if_pos e1, if_neg h4]) e1
      simp only [pkL, pkC, pk6]
      rfl
    · have e1 : ipE s = 71 := by rw [ipE, if_neg h1, if_neg h4, if_pos h6, if_neg a, if_neg b]
      exact (refp_form s w hsz _ rfl h6 (by omega) b).mono fun e w' h => ip_say (p := .zero) h (by rw [ipP, e1]; rfl) e1
  · have e1 : ipE s = 71 := by rw [ipE, if_neg h1, if_neg h4, if_neg h6]
    exact (refp_other s w hsz h1' _ rfl h4 h6).mono fun e w' h => ip_say (p := .zero) h (by rw [ipP, e1]; rfl) e1
end Go.Proofs.Ytpjndjmneficbaa

/-
  The document's Post, refused.
-/
import Derived.Test.YtbpgblmhacpjlaaGreatZq
import Derived.Deep.QuietTactic
import Derived.BigQuiet
namespace Go.Proofs.YtbpgblmhacpjlaaGreat
open Go.RowKit

theorem PsAt.at3 {A : Option Addr} {l : List IPt} {w : World} (h : PsAt A l w) (j : Nat) (hj : j < l.length) : ∃ b off, A = some ⟨b, off, none⟩ ∧ w.cell? ⟨b, off + j * 3, none⟩ = some (.int .i64 l[j].at_) ∧ w.cell? ⟨b, off + j * 3 + 1, none⟩ = some (.int .i64 l[j].n) ∧ w.cell? ⟨b, off + j * 3 + 2, none⟩ = some (.bool l[j].wr) := by
  obtain ⟨b, off, e, -, c⟩ := h j hj
  exact ⟨b, off, e, c⟩
theorem part_at {A : Option Addr} {l : List IPt} {w : World} {xs : List UInt8} (h : PsAt A l w) (k : Nat) (hk : k < l.length) : ∃ (a N : Int) (W : Bool) (b off : Nat), stepB xs l k = (decide (0 < N) && (mayB xs a N && (!(wrAt l k) || W))) ∧ A = some ⟨b, off, none⟩ ∧ w.cell? ⟨b, off + k * 3, none⟩ = some (.int .i64 a) ∧ w.cell? ⟨b, off + k * 3 + 1, none⟩ = some (.int .i64 N) ∧ w.cell? ⟨b, off + k * 3 + 2, none⟩ = some (.bool W) := by
  obtain ⟨b, off, e, c⟩ := h.at3 k hk
  exact ⟨_, _, _, b, off, stepB_at hk, e, c⟩
theorem prev_at {A : Option Addr} {l : List IPt} {w : World} {b off : Nat} (h : PsAt A l w) (k : Nat) (hk : k < l.length) (h0 : k ≠ 0) (hA : A = some ⟨b, off, none⟩) : ∃ (kp : Nat) (P : Bool), k = kp + 1 ∧ wrAt l k = P ∧ w.cell? ⟨b, off + kp * 3 + 2, none⟩ = some (.bool P) := by
  obtain ⟨kp, hp, ek, ew⟩ := wrAt_prev hk h0
  obtain ⟨b', off', e, -, -, c⟩ := h.at3 kp hp
  rw [e] at hA
  injection hA with hA
  injection hA with q1 q2
  subst q1; subst q2
  exact ⟨kp, _, ek, ew, c⟩
theorem okAt_off {xs : List UInt8} {l : List IPt} (h : okAt xs l 0 = false) : ∀ k, okAt xs l k = false
  | 0 => h
  | k + 1 => by show (okAt xs l k && stepB xs l k) = false; rw [okAt_off h k]; rfl
theorem ok_zero {xs : List UInt8} {l : List IPt} : (l.length < 1 ∧ okAt xs l 0 = false) ∨ (1 ≤ l.length ∧ 64 < l.length ∧ okAt xs l 0 = false) ∨ (1 ≤ l.length ∧ l.length ≤ 64 ∧ okAt xs l 0 = true) := by
  show (_ ∧ decide (1 ≤ l.length ∧ l.length ≤ 64) = false) ∨ (_ ∧ _ ∧ decide (1 ≤ l.length ∧ l.length ≤ 64) = false) ∨ (_ ∧ _ ∧ decide (1 ≤ l.length ∧ l.length ≤ 64) = true)
  by_cases h1 : l.length < 1
  · exact .inl ⟨h1, decide_eq_false (by omega)⟩
  · by_cases h2 : 64 < l.length
    · exact .inr (.inl ⟨by omega, h2, decide_eq_false (by omega)⟩)
    · exact .inr (.inr ⟨by omega, by omega, decide_eq_true (by omega)⟩)
set_option maxRecDepth 100000 in
set_option maxHeartbeats 12800000 in
theorem rpost_form {F : Nat → Prop} {w : World} {gx g n : Nat} {xs : List UInt8} {q : Vs} (h : (stars [rmemA g xs n, refA gx g q]).P F w) {A : Option Addr} {l : List IPt} {cap0 : Nat} (hA : PsAt A l w) (hFA : ∀ ad, A = some ad → ¬ F ad.block) (hl : l.length ≤ 1048576) (hC : chainB xs l = false) :
    Calls Tryz.prog 7 #[.pointer (some ⟨gx, 0, none⟩), .slice A l.length cap0] w fun e w' => e = .returned (.tuple #[.int .i64 0, .int .i64 150]) ∧ St F w (stars [rmemA g xs n, refA gx g q]) w' := by
  obtain ⟨B, cap, h'⟩ := ref_open2 h
  have S0 := Lib.hid (St.start h')
  have HPs := Lib.hid hA
  have HF := Lib.hid hFA
  have HC := Lib.hid hC
  clear h h' hA hFA hC
  have hz := @ok_zero xs l
  go_enter Tryz.func7, Tryz.ntmps7
  rcases hz with ⟨z1, hz0⟩ | ⟨z1, z2, hz0⟩ | ⟨z1, z2, hz0⟩
  · have y1 : ¬ (1 : Int) ≤ (l.length : Int) := by omega
    go_wp2_with fail
    go_loopw [6, 7] (fun okv iv wr => ∃ k : Nat, k ≤ l.length ∧ okv = .bool (okAt xs l k) ∧ iv = .int .i64 (k : Int) ∧ St F w (stars [rmemA g xs n, box gx 48 (q.cellsR g (.slice B q.hs.length cap)), rowA 3 1 (.slice B q.hs.length cap) q.hs.length (intsV q.hs)]) wr) (fun okv iv _ => l.length - (RowKit.intOf iv).toNat)
    case atStart => exact ⟨0, Nat.zero_le _, by rw [hz0], rfl, S0.out⟩
    case round =>
      obtain ⟨k, hk, rfl, rfl, S1⟩ := hrel
      by_cases hlt2 : k < l.length
      · omega
      · obtain rfl : k = l.length := by omega
        have e : okAt xs l l.length = false := (okAt_all xs l).trans HC.out
        rw [e]
        go_wp2_with fail
        go_ret2
        exact ⟨rfl, ref_shut2 S1 rfl rfl rfl⟩
  · have y1 : (1 : Int) ≤ (l.length : Int) := by omega
    have y2 : ¬ (l.length : Int) ≤ 64 := by omega
    go_wp2_with fail
    go_loopw [6, 7] (fun okv iv wr => ∃ k : Nat, k ≤ l.length ∧ okv = .bool (okAt xs l k) ∧ iv = .int .i64 (k : Int) ∧ St F w (stars [rmemA g xs n, box gx 48 (q.cellsR g (.slice B q.hs.length cap)), rowA 3 1 (.slice B q.hs.length cap) q.hs.length (intsV q.hs)]) wr) (fun okv iv _ => l.length - (RowKit.intOf iv).toNat)
    case atStart => exact ⟨0, Nat.zero_le _, by rw [hz0], rfl, S0.out⟩
    case round =>
      obtain ⟨k, hk, rfl, rfl, S1⟩ := hrel
      by_cases hlt2 : k < l.length
      · have hB : okAt xs l k = false := okAt_off hz0 k
        rw [hB]
        have HK := Lib.hid hlt2
        have Hs := Lib.hid (show okAt xs l (k + 1) = false by show (okAt xs l k && stepB xs l k) = _; rw [hB]; rfl)
        have S1 := Lib.hid S1
        go_wp2_with fail
        go_quiet (fail)
        have S2 := Lib.hid (S1.out.drewN nq)
        go_wp2_with fail
        go_roundw
        case rel => exact ⟨k + 1, HK.out, by rw [Hs.out], by go_num, S2.out⟩
        case measure => have := HK.out; simp [RowKit.intOf]; omega
      · obtain rfl : k = l.length := by omega
        have e : okAt xs l l.length = false := (okAt_all xs l).trans HC.out
        rw [e]
        go_wp2_with fail
        go_ret2
        exact ⟨rfl, ref_shut2 S1 rfl rfl rfl⟩
  · have y1 : (1 : Int) ≤ (l.length : Int) := by omega
    have y2 : (l.length : Int) ≤ 64 := by omega
    go_wp2_with fail
    go_loopw [6, 7] (fun okv iv wr => ∃ k : Nat, k ≤ l.length ∧ okv = .bool (okAt xs l k) ∧ iv = .int .i64 (k : Int) ∧ St F w (stars [rmemA g xs n, box gx 48 (q.cellsR g (.slice B q.hs.length cap)), rowA 3 1 (.slice B q.hs.length cap) q.hs.length (intsV q.hs)]) wr) (fun okv iv _ => l.length - (RowKit.intOf iv).toNat)
    case atStart => exact ⟨0, Nat.zero_le _, by rw [hz0], rfl, S0.out⟩
    case round =>
      obtain ⟨k, hk, rfl, rfl, S1⟩ := hrel
      by_cases hlt2 : k < l.length
      · cases hB : okAt xs l k
        · as_aux_lemma =>
          have HK := Lib.hid hlt2
          have Hs := Lib.hid (show okAt xs l (k + 1) = false by show (okAt xs l k && stepB xs l k) = _; rw [hB]; rfl)
          have S1 := Lib.hid S1
          go_wp2_with fail
          go_quiet (fail)
          have S2 := Lib.hid (S1.out.drewN nq)
          go_wp2_with fail
          go_roundw
          case rel => exact ⟨k + 1, HK.out, by rw [Hs.out], by go_num, S2.out⟩
          case measure => have := HK.out; simp [RowKit.intOf]; omega
        · as_aux_lemma =>
          have HK := Lib.hid hlt2
          obtain ⟨a, N, W, b, off, hst, hAe, c_a, c_n, c_w⟩ := part_at (xs := xs) (HPs.out.step S1.step HF.out) k hlt2
          have hb := S1.blk 1 (by simp) rfl
          have c0 : wr.cell? ⟨gx, 0, none⟩ = some (.pointer (some ⟨g, 0, none⟩)) := hb.cell 0
          have hltg := hb.lt
          have hneg := Nat.ne_of_lt hltg
          have e1 : (0 : Int) ≤ (k : Int) := by omega
          have e2 : (k : Int) < (l.length : Int) := by omega
          have HMay : ∀ m, Calls Tryz.prog 31 #[.pointer (some ⟨g, 0, none⟩), .int .i64 a, .int .i64 N] (wr.drewN m) fun e w' => e = .returned (.bool (mayB xs a N)) ∧ w' = wr.drewN m := fun m => by
            obtain ⟨F1, hR⟩ := (S1.drewN m).get 0 (by simp)
            exact (rmemA_may hR _ _).mono fun _ _ hh => ⟨hh.1, hh.2.symm⟩
          clear hb
          by_cases d1 : 0 < N
          · have d2 : decide (0 < N) = true := decide_eq_true d1
            rw [d2, Bool.true_and] at hst
            cases hM : mayB xs a N
            · rw [hM] at hst HMay
              have HMay := Lib.hid HMay
              subst hAe
              have hst : stepB xs l k = false := hst
              have Hs := Lib.hid (show okAt xs l (k + 1) = false by show (okAt xs l k && stepB xs l k) = _; rw [hB, hst]; rfl)
              have S1 := Lib.hid S1
              go_wp2_with fail
              go_quiet ((go_at_call 31; exact Calls.quiet_of_same (HMay.out _)))
              have S2 := Lib.hid (S1.out.drewN nq)
              go_wp2_with fail
              go_roundw
              case rel => exact ⟨k + 1, HK.out, by rw [Hs.out], by go_num, S2.out⟩
              case measure => have := HK.out; simp [RowKit.intOf]; omega
            · rw [hM] at hst HMay
              rw [Bool.true_and] at hst
              have HMay := Lib.hid HMay
              by_cases k0 : k = 0
              · subst k0
                have hst : stepB xs l 0 = true := by rw [hst]; rfl
                simp only [Nat.zero_mul, Nat.add_zero] at c_a c_n c_w
                subst hAe
                have Hs := Lib.hid (show okAt xs l (0 + 1) = true by show (okAt xs l 0 && stepB xs l 0) = _; rw [hB, hst]; rfl)
                have S1 := Lib.hid S1
                go_wp2_with fail
                go_quiet ((go_at_call 31; exact Calls.quiet_of_same (HMay.out _)))
                have S2 := Lib.hid (S1.out.drewN nq)
                go_wp2_with fail
                go_roundw
                case rel => exact ⟨0 + 1, HK.out, by rw [Hs.out], by go_num, S2.out⟩
                case measure => have := HK.out; simp [RowKit.intOf]; omega
              · have z1 : ((k : Int) == 0) = false := by simp [k0]
                have z2 : decide (k = 0) = false := decide_eq_false k0
                have z3 : (k == 0) = false := by simp [k0]
                obtain ⟨kp, P, ek, ew, c_p⟩ := prev_at (HPs.out.step S1.step HF.out) k hlt2 k0 hAe
                rw [ew] at hst
                have v1 : (k : Int) - 1 = (kp : Int) := by omega
                have v2 : IntKind.i64.wrap (kp : Int) = (kp : Int) := by rw [IntKind.wrap_i64]; omega
                have e3 : (0 : Int) ≤ (kp : Int) := by omega
                have e4 : (kp : Int) < (l.length : Int) := by omega
                clear ek ew
                subst hAe
                cases W
                · cases P
                  · have hst : stepB xs l k = true := hst
                    have Hs := Lib.hid (show okAt xs l (k + 1) = true by show (okAt xs l k && stepB xs l k) = _; rw [hB, hst]; rfl)
                    have S1 := Lib.hid S1
                    go_wp2_with fail
                    go_quiet ((go_at_call 31; exact Calls.quiet_of_same (HMay.out _)))
                    have S2 := Lib.hid (S1.out.drewN nq)
                    go_wp2_with fail
                    go_roundw
                    case rel => exact ⟨k + 1, HK.out, by rw [Hs.out], by go_num, S2.out⟩
                    case measure => have := HK.out; simp [RowKit.intOf]; omega
                  · have hst : stepB xs l k = false := hst
                    have Hs := Lib.hid (show okAt xs l (k + 1) = false by show (okAt xs l k && stepB xs l k) = _; rw [hB, hst]; rfl)
                    have S1 := Lib.hid S1
                    go_wp2_with fail
                    go_quiet ((go_at_call 31; exact Calls.quiet_of_same (HMay.out _)))
                    have S2 := Lib.hid (S1.out.drewN nq)
                    go_wp2_with fail
                    go_roundw
                    case rel => exact ⟨k + 1, HK.out, by rw [Hs.out], by go_num, S2.out⟩
                    case measure => have := HK.out; simp [RowKit.intOf]; omega
                · have hst : stepB xs l k = true := by rw [hst]; simp
                  have Hs := Lib.hid (show okAt xs l (k + 1) = true by show (okAt xs l k && stepB xs l k) = _; rw [hB, hst]; rfl)
                  have S1 := Lib.hid S1
                  go_wp2_with fail
                  go_quiet ((go_at_call 31; exact Calls.quiet_of_same (HMay.out _)))
                  have S2 := Lib.hid (S1.out.drewN nq)
                  go_wp2_with fail
                  go_roundw
                  case rel => exact ⟨k + 1, HK.out, by rw [Hs.out], by go_num, S2.out⟩
                  case measure => have := HK.out; simp [RowKit.intOf]; omega
          · have d2 : decide (0 < N) = false := decide_eq_false d1
            have hst : stepB xs l k = false := by rw [hst, d2]; rfl
            subst hAe
            have Hs := Lib.hid (show okAt xs l (k + 1) = false by show (okAt xs l k && stepB xs l k) = _; rw [hB, hst]; rfl)
            have S1 := Lib.hid S1
            go_wp2_with fail
            go_quiet (fail)
            have S2 := Lib.hid (S1.out.drewN nq)
            go_wp2_with fail
            go_roundw
            case rel => exact ⟨k + 1, HK.out, by rw [Hs.out], by go_num, S2.out⟩
            case measure => have := HK.out; simp [RowKit.intOf]; omega
      · obtain rfl : k = l.length := by omega
        have e : okAt xs l l.length = false := (okAt_all xs l).trans HC.out
        rw [e]
        go_wp2_with fail
        go_ret2
        exact ⟨rfl, ref_shut2 S1 rfl rfl rfl⟩
end Go.Proofs.YtbpgblmhacpjlaaGreat
namespace Go.Proofs.YtbpgblmhacpjlaaGreat
open Go.RowKit

set_option maxRecDepth 100000 in
set_option maxHeartbeats 12800000 in
theorem rpost_full {F : Nat → Prop} {w : World} {gx g n : Nat} {xs : List UInt8} {q : Vs} (h : (stars [rmemA g xs n, refA gx g q]).P F w) {A : Option Addr} {l : List IPt} {cap0 : Nat} (hA : PsAt A l w) (hFA : ∀ ad, A = some ad → ¬ F ad.block) (hl : l.length ≤ 1048576) (hC : chainB xs l = true) (hq : q.Ok xs.length) (hf : q.free < l.length) :
    Calls Tryz.prog 7 #[.pointer (some ⟨gx, 0, none⟩), .slice A l.length cap0] w fun e w' => e = .returned (.tuple #[.int .i64 0, .int .i64 151]) ∧ St F w (stars [rmemA g xs n, refA gx g q]) w' := by
  obtain ⟨B, cap, h'⟩ := ref_open2 h
  have S0 := Lib.hid (St.start h')
  have HPs := Lib.hid hA
  have HF := Lib.hid hFA
  have HC := Lib.hid hC
  have HQ := Lib.hid hq
  have HFl := Lib.hid (show (q.free : Int) < (l.length : Int) by omega)
  clear h h' hA hFA hC hq hf
  have hz := @ok_zero xs l
  go_enter Tryz.func7, Tryz.ntmps7
  rcases hz with ⟨z1, hz0⟩ | ⟨z1, z2, hz0⟩ | ⟨z1, z2, hz0⟩
  · exact absurd ((okAt_all xs l).trans HC.out) (by rw [okAt_off hz0]; decide)
  · exact absurd ((okAt_all xs l).trans HC.out) (by rw [okAt_off hz0]; decide)
  · have y1 : (1 : Int) ≤ (l.length : Int) := by omega
    have y2 : (l.length : Int) ≤ 64 := by omega
    go_wp2_with fail
    go_loopw [6, 7] (fun okv iv wr => ∃ k : Nat, k ≤ l.length ∧ okv = .bool (okAt xs l k) ∧ iv = .int .i64 (k : Int) ∧ St F w (stars [rmemA g xs n, box gx 48 (q.cellsR g (.slice B q.hs.length cap)), rowA 3 1 (.slice B q.hs.length cap) q.hs.length (intsV q.hs)]) wr) (fun okv iv _ => l.length - (RowKit.intOf iv).toNat)
    case atStart => exact ⟨0, Nat.zero_le _, by rw [hz0], rfl, S0.out⟩
    case round =>
      obtain ⟨k, hk, rfl, rfl, S1⟩ := hrel
      by_cases hlt2 : k < l.length
      · cases hB : okAt xs l k
        · as_aux_lemma =>
          have HK := Lib.hid hlt2
          have Hs := Lib.hid (show okAt xs l (k + 1) = false by show (okAt xs l k && stepB xs l k) = _; rw [hB]; rfl)
          have S1 := Lib.hid S1
          go_wp2_with fail
          go_quiet (fail)
          have S2 := Lib.hid (S1.out.drewN nq)
          go_wp2_with fail
          go_roundw
          case rel => exact ⟨k + 1, HK.out, by rw [Hs.out], by go_num, S2.out⟩
          case measure => have := HK.out; simp [RowKit.intOf]; omega
        · as_aux_lemma =>
          have HK := Lib.hid hlt2
          obtain ⟨a, N, W, b, off, hst, hAe, c_a, c_n, c_w⟩ := part_at (xs := xs) (HPs.out.step S1.step HF.out) k hlt2
          have hb := S1.blk 1 (by simp) rfl
          have c0 : wr.cell? ⟨gx, 0, none⟩ = some (.pointer (some ⟨g, 0, none⟩)) := hb.cell 0
          have hltg := hb.lt
          have hneg := Nat.ne_of_lt hltg
          have e1 : (0 : Int) ≤ (k : Int) := by omega
          have e2 : (k : Int) < (l.length : Int) := by omega
          have HMay : ∀ m, Calls Tryz.prog 31 #[.pointer (some ⟨g, 0, none⟩), .int .i64 a, .int .i64 N] (wr.drewN m) fun e w' => e = .returned (.bool (mayB xs a N)) ∧ w' = wr.drewN m := fun m => by
            obtain ⟨F1, hR⟩ := (S1.drewN m).get 0 (by simp)
            exact (rmemA_may hR _ _).mono fun _ _ hh => ⟨hh.1, hh.2.symm⟩
          clear hb
          by_cases d1 : 0 < N
          · have d2 : decide (0 < N) = true := decide_eq_true d1
            rw [d2, Bool.true_and] at hst
            cases hM : mayB xs a N
            · rw [hM] at hst HMay
              have HMay := Lib.hid HMay
              subst hAe
              have hst : stepB xs l k = false := hst
              have Hs := Lib.hid (show okAt xs l (k + 1) = false by show (okAt xs l k && stepB xs l k) = _; rw [hB, hst]; rfl)
              have S1 := Lib.hid S1
              go_wp2_with fail
              go_quiet ((go_at_call 31; exact Calls.quiet_of_same (HMay.out _)))
              have S2 := Lib.hid (S1.out.drewN nq)
              go_wp2_with fail
              go_roundw
              case rel => exact ⟨k + 1, HK.out, by rw [Hs.out], by go_num, S2.out⟩
              case measure => have := HK.out; simp [RowKit.intOf]; omega
            · rw [hM] at hst HMay
              rw [Bool.true_and] at hst
              have HMay := Lib.hid HMay
              by_cases k0 : k = 0
              · subst k0
                have hst : stepB xs l 0 = true := by rw [hst]; rfl
                simp only [Nat.zero_mul, Nat.add_zero] at c_a c_n c_w
                subst hAe
                have Hs := Lib.hid (show okAt xs l (0 + 1) = true by show (okAt xs l 0 && stepB xs l 0) = _; rw [hB, hst]; rfl)
                have S1 := Lib.hid S1
                go_wp2_with fail
                go_quiet ((go_at_call 31; exact Calls.quiet_of_same (HMay.out _)))
                have S2 := Lib.hid (S1.out.drewN nq)
                go_wp2_with fail
                go_roundw
                case rel => exact ⟨0 + 1, HK.out, by rw [Hs.out], by go_num, S2.out⟩
                case measure => have := HK.out; simp [RowKit.intOf]; omega
              · have z1 : ((k : Int) == 0) = false := by simp [k0]
                have z2 : decide (k = 0) = false := decide_eq_false k0
                have z3 : (k == 0) = false := by simp [k0]
                obtain ⟨kp, P, ek, ew, c_p⟩ := prev_at (HPs.out.step S1.step HF.out) k hlt2 k0 hAe
                rw [ew] at hst
                have v1 : (k : Int) - 1 = (kp : Int) := by omega
                have v2 : IntKind.i64.wrap (kp : Int) = (kp : Int) := by rw [IntKind.wrap_i64]; omega
                have e3 : (0 : Int) ≤ (kp : Int) := by omega
                have e4 : (kp : Int) < (l.length : Int) := by omega
                clear ek ew
                subst hAe
                cases W
                · cases P
                  · have hst : stepB xs l k = true := hst
                    have Hs := Lib.hid (show okAt xs l (k + 1) = true by show (okAt xs l k && stepB xs l k) = _; rw [hB, hst]; rfl)
                    have S1 := Lib.hid S1
                    go_wp2_with fail
                    go_quiet ((go_at_call 31; exact Calls.quiet_of_same (HMay.out _)))
                    have S2 := Lib.hid (S1.out.drewN nq)
                    go_wp2_with fail
                    go_roundw
                    case rel => exact ⟨k + 1, HK.out, by rw [Hs.out], by go_num, S2.out⟩
                    case measure => have := HK.out; simp [RowKit.intOf]; omega
                  · have hst : stepB xs l k = false := hst
                    have Hs := Lib.hid (show okAt xs l (k + 1) = false by show (okAt xs l k && stepB xs l k) = _; rw [hB, hst]; rfl)
                    have S1 := Lib.hid S1
                    go_wp2_with fail
                    go_quiet ((go_at_call 31; exact Calls.quiet_of_same (HMay.out _)))
                    have S2 := Lib.hid (S1.out.drewN nq)
                    go_wp2_with fail
                    go_roundw
                    case rel => exact ⟨k + 1, HK.out, by rw [Hs.out], by go_num, S2.out⟩
                    case measure => have := HK.out; simp [RowKit.intOf]; omega
                · have hst : stepB xs l k = true := by rw [hst]; simp
                  have Hs := Lib.hid (show okAt xs l (k + 1) = true by show (okAt xs l k && stepB xs l k) = _; rw [hB, hst]; rfl)
                  have S1 := Lib.hid S1
                  go_wp2_with fail
                  go_quiet ((go_at_call 31; exact Calls.quiet_of_same (HMay.out _)))
                  have S2 := Lib.hid (S1.out.drewN nq)
                  go_wp2_with fail
                  go_roundw
                  case rel => exact ⟨k + 1, HK.out, by rw [Hs.out], by go_num, S2.out⟩
                  case measure => have := HK.out; simp [RowKit.intOf]; omega
          · have d2 : decide (0 < N) = false := decide_eq_false d1
            have hst : stepB xs l k = false := by rw [hst, d2]; rfl
            subst hAe
            have Hs := Lib.hid (show okAt xs l (k + 1) = false by show (okAt xs l k && stepB xs l k) = _; rw [hB, hst]; rfl)
            have S1 := Lib.hid S1
            go_wp2_with fail
            go_quiet (fail)
            have S2 := Lib.hid (S1.out.drewN nq)
            go_wp2_with fail
            go_roundw
            case rel => exact ⟨k + 1, HK.out, by rw [Hs.out], by go_num, S2.out⟩
            case measure => have := HK.out; simp [RowKit.intOf]; omega
      · obtain rfl : k = l.length := by omega
        have e : okAt xs l l.length = true := (okAt_all xs l).trans HC.out
        rw [e]
        obtain ⟨F2, hR⟩ := (ref_shut2 (q := q) S1 rfl rfl rfl).get 1 (by simp)
        have HFr := Lib.hid (rfree_v hR HQ.out)
        have S1 := Lib.hid S1
        clear hR
        go_wp2_with fail
        refine HFr.out.mono ?_
        rintro e w2 ⟨rfl, hq2⟩
        have S3 := Lib.hid (S1.out.below hq2)
        have q1 := HFl.out
        clear hq2 S1 HFr
        go_wp2_with fail
        go_ret2
        exact ⟨rfl, ref_shut2 S3.out rfl rfl rfl⟩
end Go.Proofs.YtbpgblmhacpjlaaGreat

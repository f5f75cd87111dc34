/-
  The document's Post: a chain that is posted; no condition.
-/
import Derived.Test.YtbpgblmhacpjlaaGreatZr
import Derived.Test.YtbpgblmhacpjlaaGreatZq
import Derived.Deep.RegionHeld3
import Derived.Deep.CutRange
import Derived.Test.YtbpgblmhacpjlaaGreatSVf
import Derived.Test.YtbpgblmhacpjlaaGreatZg
namespace Go.Proofs.YtbpgblmhacpjlaaGreat
open Go.RowKit

theorem rg_cells {F : Nat → Prop} {w W : World} {gx g : Nat} {q : Vs} {hv : Value} {M R : As} (h : St F w (stars [M, box gx 48 (q.cellsR g hv), R]) W) :
    W.cell? ⟨gx, 5, none⟩ = some (.int .i64 (q.na : Int)) ∧ W.cell? ⟨gx, 6, none⟩ = some (.bool q.nw) ∧ W.cell? ⟨gx, 2, none⟩ = some (.int .i64 (q.size : Int)) := by
  have hb := h.blk 1 (by simp) rfl
  exact ⟨hb.cell 5, hb.cell 6, hb.cell 2⟩
theorem rg_keep2 {F : Nat → Prop} {w W w' : World} {l : List As} (h : St F w (stars l) W) {x y : Value} (hq : Below (W.alloc (.cells #[x, y] 44)).drew.heap.size (W.alloc (.cells #[x, y] 44)).drew w') (p r : Value) :
    St F w (stars (box W.heap.size 44 #[p, r] :: l)) ((w'.setCell ⟨W.heap.size, 0, none⟩ p).setCell ⟨W.heap.size, 1, none⟩ r) :=
  ((h.push 44 #[x, y]).drew.below hq).put2 0 (by simp) rfl 0 1 p r
theorem rg_st2 {F : Nat → Prop} {w W w' : World} {l : List As} (h : St F w (stars l) W) {x y : Value} (hq : Below (W.alloc (.cells #[x, y] 44)).drew.heap.size (W.alloc (.cells #[x, y] 44)).drew w') (p r : Value) :
    St F w (stars l) ((w'.setCell ⟨W.heap.size, 0, none⟩ p).setCell ⟨W.heap.size, 1, none⟩ r) := St.pop (rg_keep2 h hq p r)
theorem part_enc {A : Option Addr} {l : List IPt} {w : World} (h : PsAt A l w) (hN : InM l) (q : Vs) (id i : Nat) (hi : i < l.length) : ∃ (a N : Nat) (W M : Bool) (b off : Nat), A = some ⟨b, off, none⟩ ∧ (∀ w' : World, PsAt A l w' → w'.cell? ⟨b, off + i * 3, none⟩ = some (.int .i64 (a : Int)) ∧ w'.cell? ⟨b, off + i * 3 + 1, none⟩ = some (.int .i64 (N : Int)) ∧ w'.cell? ⟨b, off + i * 3 + 2, none⟩ = some (.bool W)) ∧ a ≤ 1048576 ∧ N ≤ 1048576 ∧ decide ((i : Int) < (l.length : Int) - 1) = M ∧ encAt q (l.map IPt.pt) id i = encB a N id M W (stW q.size q.na i q.nw) := by
  obtain ⟨b, off, e, -, -, -⟩ := h.at3 i hi
  obtain ⟨n1, n2, n3, n4⟩ := hN i hi
  have e1 : ((l[i].at_.toNat : Nat) : Int) = l[i].at_ := Int.toNat_of_nonneg n1
  have e2 : ((l[i].n.toNat : Nat) : Int) = l[i].n := Int.toNat_of_nonneg n3
  refine ⟨l[i].at_.toNat, l[i].n.toNat, l[i].wr, _, b, off, e, fun w' hw => ?_, by omega, by omega, rfl, ?_⟩
  · obtain ⟨b', off', e', c0, c1, c2⟩ := hw.at3 i hi
    rw [e] at e'
    injection e' with e'
    injection e' with q1 q2
    subst q1; subst q2
    rw [e1, e2]
    exact ⟨c0, c1, c2⟩
  · have e4 : decide ((i : Int) < (l.length : Int) - 1) = decide (i + 1 < (l.map IPt.pt).length) := by rw [List.length_map]; exact decide_eq_decide.2 (by omega)
    unfold encAt
    rw [getD_pt hi, e4]; rfl
theorem r22_cells {A : Option Addr} {l : List IPt} {F : Nat → Prop} {w W : World} {L : List As} {K b off i : Nat} {p r s x y : Value} (h : St F w (stars (box K 44 #[x, y] :: L)) W) (hP : Hid (PsAt A l w)) (hF : Hid (∀ ad, A = some ad → ¬ F ad.block))
    (hC : Hid (∀ w' : World, PsAt A l w' → w'.cell? ⟨b, off + i * 3, none⟩ = some p ∧ w'.cell? ⟨b, off + i * 3 + 1, none⟩ = some r ∧ w'.cell? ⟨b, off + i * 3 + 2, none⟩ = some s)) :
    W.cell? ⟨b, off + i * 3, none⟩ = some p ∧ W.cell? ⟨b, off + i * 3 + 1, none⟩ = some r ∧ W.cell? ⟨K, 1, none⟩ = some y := by
  obtain ⟨c1, c2, -⟩ := hC.out _ (hP.out.step h.step hF.out)
  exact ⟨c1, c2, (h.blk 0 (by simp) rfl).cell 1⟩
theorem r23_cells {F : Nat → Prop} {w W : World} {gx g K : Nat} {q : Vs} {hv x y : Value} {M R : As} (h : St F w (stars [box K 44 #[x, y], M, box gx 48 (q.cellsR g hv), R]) W) :
    W.cell? ⟨gx, 0, none⟩ = some (.pointer (some ⟨g, 0, none⟩)) ∧ W.cell? ⟨gx, 1, none⟩ = some (.int .i64 (q.ring : Int)) ∧ W.cell? ⟨K, 0, none⟩ = some x := by
  have hb := h.blk 2 (by simp) rfl
  exact ⟨hb.cell 0, hb.cell 1, (h.blk 0 (by simp) rfl).cell 0⟩
theorem St.rot3 {F0 : Nat → Prop} {w0 w : World} {A B C : As} (h : St F0 w0 (stars [A, B, C]) w) : St F0 w0 (stars [B, C, A]) w :=
  h.mono fun _ e => sep_mono (sep_swap e) (fun _ e => e) (fun _ e => stars_pair (sep_comm (pair_stars e)))
theorem post_shut {F : Nat → Prop} {w W : World} {M : As} {gx g j k NA g3 cap3 : Nat} {NB : Bool} {v : Value} {q : Vs} (h : St F w (stars [M, box gx 48 (((((q.cellsR g v).setIfInBounds 5 (.int .i64 (NA : Int))).setIfInBounds 6 (.bool NB)).setIfInBounds 11 (.int .i64 ((q.since : Int) + (k : Int)))).setIfInBounds 12 (.slice (some ⟨g3, 0, none⟩) q.hs.length cap3)), rowA 3 1 (.slice (some ⟨g3, 0, none⟩) q.hs.length cap3) q.hs.length ((intsV q.hs).set j (.int .i64 (k : Int)))]) W)
    (hA : stA q.size q.na k = NA) (hB : stW q.size q.na k q.nw = NB) (hj : j = leastId q.hs) : St F w (stars [M, refA gx g (q.posted k)]) W := by
  subst hA; subst hB; subst hj
  rw [← Int.natCast_add] at h
  exact ref_shut2 h rfl (by simp [Vs.posted]) (intsV_set q.hs _ k)
set_option maxRecDepth 100000 in
set_option maxHeartbeats 12800000 in
theorem rpost_good {F : Nat → Prop} {w : World} {gx g n : Nat} {xs : List UInt8} {q : Vs} (h : (stars [rmemA g xs n, refA gx g q]).P F w) {A : Option Addr} {l : List IPt} {cap0 : Nat} (hA : PsAt A l w) (hFA : ∀ ad, A = some ad → ¬ F ad.block) (hl : l.length ≤ 1048576) (hC : chainB xs l = true) (hq : q.Ok xs.length) (hf : ¬ q.free < l.length) (hn4 : n + 64 ≤ 4000) (hsi : q.since ≤ 1099511627776) :
    Calls Tryz.prog 7 #[.pointer (some ⟨gx, 0, none⟩), .slice A l.length cap0] w fun e w' => e = .returned (.tuple #[.int .i64 (leastId q.hs : Int), .int .i64 0]) ∧ St F w (stars [rmemA g (putN q (l.map IPt.pt) (leastId q.hs) xs l.length) (n + l.length), refA gx g (q.posted l.length)]) w' := by
  obtain ⟨B, cap, h'⟩ := ref_open2 h
  have S0 := Lib.hid (St.start h')
  have HPs := Lib.hid hA
  have HF := Lib.hid hFA
  have HC := Lib.hid hC
  obtain ⟨Fm, hMm⟩ := (St.start h).get 0 (by simp)
  have hxl := rmemA_len hMm
  have HIn := Lib.hid (chainB_in hxl hC)
  have HXl := Lib.hid hxl
  clear hMm hxl
  have HQ := Lib.hid hq
  have HFl := Lib.hid (show ¬ (q.free : Int) < (l.length : Int) by omega)
  have HFs := Lib.hid (show l.length ≤ q.size ∧ l.length ≤ 64 from ⟨by have := free_le hq; omega, (chain_len hC).2⟩)
  have HIdb := Lib.hid (show q.hs.length ≤ 32768 by have := hq.hl; have := hq.s2; omega)
  have HLe := Lib.hid (post_room hq (chain_len hC).1 hf)
  have HSz := Lib.hid (show q.hs.length ≤ 32768 by have := hq.hl; have := hq.s2; omega)
  have HN4 := Lib.hid hn4
  have hfq := free_le hq
  obtain ⟨n0, n1, n2⟩ := nx_st q.nw hq.s1 hq.s2 hq.na (k := l.length) (by omega)
  have HNx := fun W => Sp.rnext_any (q.na : Int) (q.size : Int) (l.length : Int) q.nw W
  rw [n0, n1, n2] at HNx
  unfold Sp.R2 at HNx
  obtain ⟨NA, hNA⟩ : ∃ NA, stA q.size q.na l.length = NA := ⟨_, rfl⟩
  obtain ⟨NB, hNB⟩ : ∃ NB, stW q.size q.na l.length q.nw = NB := ⟨_, rfl⟩
  rw [hNA, hNB] at HNx
  have HNx := Lib.hid HNx
  have HNA := Lib.hid hNA
  have HNB := Lib.hid hNB
  have HSi := Lib.hid (show IntKind.i64.wrap ((q.since : Int) + (l.length : Int)) = (q.since : Int) + (l.length : Int) by rw [IntKind.wrap_i64]; omega)
  obtain ⟨i0, hi, hz0, hz1, hz2⟩ := info_parts Tryz.info3
  have HTi := Lib.hid hi
  have HZ0 := Lib.hid hz0
  have HZ1 := Lib.hid hz1
  have HZ2 := Lib.hid hz2
  have Hn := Lib.hid (show 0 < q.hs.length ∧ q.hs.length ≤ 32768 from ⟨by have := HLe.out; omega, HSz.out⟩)
  clear hi hz0 hz1 hz2 hNA hNB n0 n1 n2 hfq hsi
  clear h h' hA hFA hC hq hf hn4
  have hz := @ok_zero xs l
  go_enter Tryz.func7, Tryz.ntmps7
  rcases hz with ⟨z1, hz0⟩ | ⟨z1, z2, hz0⟩ | ⟨z1, z2, hz0⟩
  · exact absurd ((okAt_all xs l).trans HC.out) (by rw [okAt_off hz0]; decide)
  · exact absurd ((okAt_all xs l).trans HC.out) (by rw [okAt_off hz0]; decide)
  · have y1 : (1 : Int) ≤ (l.length : Int) := by omega
    have y2 : (l.length : Int) ≤ 64 := by omega
    go_wp2_with fail
    go_loopw [6, 7] (fun okv iv wr => ∃ k : Nat, k ≤ l.length ∧ okv = .bool (okAt xs l k) ∧ iv = .int .i64 (k : Int) ∧ St F w (stars [rmemA g xs n, box gx 48 (q.cellsR g (.slice B q.hs.length cap)), rowA 3 1 (.slice B q.hs.length cap) q.hs.length (intsV q.hs)]) wr) (fun okv iv _ => l.length - (RowKit.intOf iv).toNat)
    case atStart => exact ⟨0, Nat.zero_le _, by rw [hz0], rfl, S0.out⟩
    case round =>
      obtain ⟨k, hk, rfl, rfl, S1⟩ := hrel
      by_cases hlt2 : k < l.length
      · cases hB : okAt xs l k
        · as_aux_lemma =>
          have HK := Lib.hid hlt2
          have Hs := Lib.hid (show okAt xs l (k + 1) = false by show (okAt xs l k && stepB xs l k) = _; rw [hB]; rfl)
          have S1 := Lib.hid S1
          go_wp2_with fail
          go_quiet (fail)
          have S2 := Lib.hid (S1.out.drewN nq)
          go_wp2_with fail
          go_roundw
          case rel => exact ⟨k + 1, HK.out, by rw [Hs.out], by go_num, S2.out⟩
          case measure => have := HK.out; simp [RowKit.intOf]; omega
        · as_aux_lemma =>
          have HK := Lib.hid hlt2
          obtain ⟨a, N, W, b, off, hst, hAe, c_a, c_n, c_w⟩ := part_at (xs := xs) (HPs.out.step S1.step HF.out) k hlt2
          have hb := S1.blk 1 (by simp) rfl
          have c0 : wr.cell? ⟨gx, 0, none⟩ = some (.pointer (some ⟨g, 0, none⟩)) := hb.cell 0
          have hltg := hb.lt
          have hneg := Nat.ne_of_lt hltg
          have e1 : (0 : Int) ≤ (k : Int) := by omega
          have e2 : (k : Int) < (l.length : Int) := by omega
          have HMay : ∀ m, Calls Tryz.prog 31 #[.pointer (some ⟨g, 0, none⟩), .int .i64 a, .int .i64 N] (wr.drewN m) fun e w' => e = .returned (.bool (mayB xs a N)) ∧ w' = wr.drewN m := fun m => by
            obtain ⟨F1, hR⟩ := (S1.drewN m).get 0 (by simp)
            exact (rmemA_may hR _ _).mono fun _ _ hh => ⟨hh.1, hh.2.symm⟩
          clear hb
          by_cases d1 : 0 < N
          · have d2 : decide (0 < N) = true := decide_eq_true d1
            rw [d2, Bool.true_and] at hst
            cases hM : mayB xs a N
            · rw [hM] at hst HMay
              have HMay := Lib.hid HMay
              subst hAe
              have hst : stepB xs l k = false := hst
              have Hs := Lib.hid (show okAt xs l (k + 1) = false by show (okAt xs l k && stepB xs l k) = _; rw [hB, hst]; rfl)
              have S1 := Lib.hid S1
              go_wp2_with fail
              go_quiet ((go_at_call 31; exact Calls.quiet_of_same (HMay.out _)))
              have S2 := Lib.hid (S1.out.drewN nq)
              go_wp2_with fail
              go_roundw
              case rel => exact ⟨k + 1, HK.out, by rw [Hs.out], by go_num, S2.out⟩
              case measure => have := HK.out; simp [RowKit.intOf]; omega
            · rw [hM] at hst HMay
              rw [Bool.true_and] at hst
              have HMay := Lib.hid HMay
              by_cases k0 : k = 0
              · subst k0
                have hst : stepB xs l 0 = true := by rw [hst]; rfl
                simp only [Nat.zero_mul, Nat.add_zero] at c_a c_n c_w
                subst hAe
                have Hs := Lib.hid (show okAt xs l (0 + 1) = true by show (okAt xs l 0 && stepB xs l 0) = _; rw [hB, hst]; rfl)
                have S1 := Lib.hid S1
                go_wp2_with fail
                go_quiet ((go_at_call 31; exact Calls.quiet_of_same (HMay.out _)))
                have S2 := Lib.hid (S1.out.drewN nq)
                go_wp2_with fail
                go_roundw
                case rel => exact ⟨0 + 1, HK.out, by rw [Hs.out], by go_num, S2.out⟩
                case measure => have := HK.out; simp [RowKit.intOf]; omega
              · have z1 : ((k : Int) == 0) = false := by simp [k0]
                have z2 : decide (k = 0) = false := decide_eq_false k0
                have z3 : (k == 0) = false := by simp [k0]
                obtain ⟨kp, P, ek, ew, c_p⟩ := prev_at (HPs.out.step S1.step HF.out) k hlt2 k0 hAe
                rw [ew] at hst
                have v1 : (k : Int) - 1 = (kp : Int) := by omega
                have v2 : IntKind.i64.wrap (kp : Int) = (kp : Int) := by rw [IntKind.wrap_i64]; omega
                have e3 : (0 : Int) ≤ (kp : Int) := by omega
                have e4 : (kp : Int) < (l.length : Int) := by omega
                clear ek ew
                subst hAe
                cases W
                · cases P
                  · have hst : stepB xs l k = true := hst
                    have Hs := Lib.hid (show okAt xs l (k + 1) = true by show (okAt xs l k && stepB xs l k) = _; rw [hB, hst]; rfl)
                    have S1 := Lib.hid S1
                    go_wp2_with fail
                    go_quiet ((go_at_call 31; exact Calls.quiet_of_same (HMay.out _)))
                    have S2 := Lib.hid (S1.out.drewN nq)
                    go_wp2_with fail
                    go_roundw
                    case rel => exact ⟨k + 1, HK.out, by rw [Hs.out], by go_num, S2.out⟩
                    case measure => have := HK.out; simp [RowKit.intOf]; omega
                  · have hst : stepB xs l k = false := hst
                    have Hs := Lib.hid (show okAt xs l (k + 1) = false by show (okAt xs l k && stepB xs l k) = _; rw [hB, hst]; rfl)
                    have S1 := Lib.hid S1
                    go_wp2_with fail
                    go_quiet ((go_at_call 31; exact Calls.quiet_of_same (HMay.out _)))
                    have S2 := Lib.hid (S1.out.drewN nq)
                    go_wp2_with fail
                    go_roundw
                    case rel => exact ⟨k + 1, HK.out, by rw [Hs.out], by go_num, S2.out⟩
                    case measure => have := HK.out; simp [RowKit.intOf]; omega
                · have hst : stepB xs l k = true := by rw [hst]; simp
                  have Hs := Lib.hid (show okAt xs l (k + 1) = true by show (okAt xs l k && stepB xs l k) = _; rw [hB, hst]; rfl)
                  have S1 := Lib.hid S1
                  go_wp2_with fail
                  go_quiet ((go_at_call 31; exact Calls.quiet_of_same (HMay.out _)))
                  have S2 := Lib.hid (S1.out.drewN nq)
                  go_wp2_with fail
                  go_roundw
                  case rel => exact ⟨k + 1, HK.out, by rw [Hs.out], by go_num, S2.out⟩
                  case measure => have := HK.out; simp [RowKit.intOf]; omega
          · have d2 : decide (0 < N) = false := decide_eq_false d1
            have hst : stepB xs l k = false := by rw [hst, d2]; rfl
            subst hAe
            have Hs := Lib.hid (show okAt xs l (k + 1) = false by show (okAt xs l k && stepB xs l k) = _; rw [hB, hst]; rfl)
            have S1 := Lib.hid S1
            go_wp2_with fail
            go_quiet (fail)
            have S2 := Lib.hid (S1.out.drewN nq)
            go_wp2_with fail
            go_roundw
            case rel => exact ⟨k + 1, HK.out, by rw [Hs.out], by go_num, S2.out⟩
            case measure => have := HK.out; simp [RowKit.intOf]; omega
      · obtain rfl : k = l.length := by omega
        have e : okAt xs l l.length = true := (okAt_all xs l).trans HC.out
        rw [e]
        obtain ⟨F2, hR⟩ := (ref_shut2 (q := q) S1 rfl rfl rfl).get 1 (by simp)
        have HFr := Lib.hid (rfree_v hR HQ.out)
        have S1 := Lib.hid S1
        clear hR
        go_wp2_with fail
        refine HFr.out.mono ?_
        rintro e w2 ⟨rfl, hq2⟩
        have S3 := Lib.hid (S1.out.below hq2)
        have q1 := HFl.out
        clear hq2 S1 HFr
        go_wp2_with fail
        go_loopw [8] (fun iv wr => ∃ j : Nat, j ≤ leastId q.hs ∧ iv = .int .i64 (j : Int) ∧ St F w (stars [rmemA g xs n, box gx 48 (q.cellsR g (.slice B q.hs.length cap)), rowA 3 1 (.slice B q.hs.length cap) q.hs.length (intsV q.hs)]) wr) (fun iv _ => leastId q.hs - (RowKit.intOf iv).toNat)
        case atStart => exact ⟨0, Nat.zero_le _, rfl, S3.out⟩
        case round =>
          obtain ⟨j, hj, rfl, S4⟩ := hrel
          have hjl : j < q.hs.length := Nat.lt_of_le_of_lt hj HLe.out
          have hjm : (j : Int) ≤ 32768 := by have := HSz.out; omega
          have hb4 := S4.blk 1 (by simp) rfl
          have c12 : wr.cell? ⟨gx, 12, none⟩ = some (.slice B q.hs.length cap) := hb4.cell 12
          have hlt4 := hb4.lt
          have hne4 := Nat.ne_of_lt hlt4
          obtain ⟨b4, off4, hBe, hc4⟩ := (NTab.of_own (S4.row 2 (by simp) rfl) rfl).at j hjl
          have e1 : (0 : Int) ≤ (j : Int) := by omega
          have e2 : (j : Int) < (q.hs.length : Int) := by omega
          clear hb4
          by_cases hx : 0 < q.hs.getD j 0
          · have hj2 : j < leastId q.hs := by
              rcases Nat.lt_or_ge j (leastId q.hs) with h1 | h1
              · exact h1
              · have e : j = leastId q.hs := by omega
                rw [e, least_zero HLe.out] at hx; omega
            obtain ⟨x, hxe⟩ : ∃ x, q.hs.getD j 0 = x := ⟨_, rfl⟩
            rw [hxe] at hx hc4
            have e3 : (0 : Int) < (x : Int) := by omega
            have HJ := Lib.hid hj2
            have S4 := Lib.hid S4
            subst hBe
            go_wp2_with fail
            go_roundw
            case rel => exact ⟨j + 1, HJ.out, by go_num, S4.out⟩
            case measure => have := HJ.out; simp [RowKit.intOf]; omega
          · have hje : j = leastId q.hs := by
              rcases Nat.lt_or_ge j (leastId q.hs) with h1 | h1
              · exact absurd (least_pos h1) hx
              · omega
            obtain ⟨x, hxe⟩ : ∃ x, q.hs.getD j 0 = x := ⟨_, rfl⟩
            rw [hxe] at hx hc4
            have e3 : ¬ (0 : Int) < (x : Int) := by omega
            have HJ := Lib.hid hje
            have HJl := Lib.hid hjl
            have S4 := Lib.hid S4
            clear hje
            subst hBe
            go_wp2_with fail
            go_loopw [9] (fun iv wr => ∃ i : Nat, i ≤ l.length ∧ iv = .int .i64 (i : Int) ∧ St F w (stars [rmemA g (putN q (l.map IPt.pt) j xs i) (n + i), box gx 48 (q.cellsR g (.slice (some ⟨b4, off4, none⟩) q.hs.length cap)), rowA 3 1 (.slice (some ⟨b4, off4, none⟩) q.hs.length cap) q.hs.length (intsV q.hs)]) wr) (fun iv _ => l.length - (RowKit.intOf iv).toNat)
            case atStart => exact ⟨0, Nat.zero_le _, rfl, S4.out⟩
            case round =>
              obtain ⟨i, hi, rfl, S5⟩ := hrel
              by_cases hli : i < l.length
              · have HI := Lib.hid hli
                obtain ⟨a, N, W, M, b, off, hAe, hcs, ha, hN, hM, hE⟩ := part_enc (HPs.out.step S5.step HF.out) HIn.out q j i hli
                have hil : i ≤ q.size := by have := HFs.out.1; omega
                have hi64 : i < 64 := by have := HFs.out.2; omega
                have hHid := HIdb.out
                obtain ⟨n0, n1, n2⟩ := nx_st q.nw HQ.out.s1 HQ.out.s2 HQ.out.na (k := i) hil
                have HNi := fun W => Sp.rnext_any (q.na : Int) (q.size : Int) (i : Int) q.nw W
                rw [n0, n1, n2] at HNi
                unfold Sp.R2 at HNi
                have hpl := putN_length (l := l.map IPt.pt) (id := j) HQ.out i hil
                have hpa := pAt_le HQ.out hil
                have hTs := encAt_size q (l.map IPt.pt) j i
                have hx := HXl.out
                have HPut := fun (F1 : Nat → Prop) (W : World) (hm : (rmemA g (putN q (l.map IPt.pt) j xs i) (n + i)).P F1 W) => rmemA_put hm (by have := HN4.out; omega) (pAt q i) (encAt q (l.map IPt.pt) j i) (by omega)
                have hnx : putN q (l.map IPt.pt) j xs (i + 1) = over (putN q (l.map IPt.pt) j xs i) (pAt q i) (encAt q (l.map IPt.pt) j i) := rfl
                obtain ⟨T, hT⟩ : ∃ T, encAt q (l.map IPt.pt) j i = T := ⟨_, rfl⟩
                obtain ⟨P, hP⟩ : ∃ P, pAt q i = P := ⟨_, rfl⟩
                rw [hT] at HPut hTs hE hnx
                rw [hP] at HPut hpa hnx
                have hP2 : q.ring + 16 * stA q.size q.na i = P := hP
                obtain ⟨NAi, hNAi⟩ : ∃ x, stA q.size q.na i = x := ⟨_, rfl⟩
                obtain ⟨NBi, hNBi⟩ : ∃ x, stW q.size q.na i q.nw = x := ⟨_, rfl⟩
                rw [hNAi, hNBi] at HNi
                rw [hNBi] at hE
                rw [hNAi] at hP2
                have HMk : ∀ Wd, Calls Tryz.prog 35 #[.int .i64 (flN M W : Int), .bool NBi, .bool false] Wd fun e w' => e = .returned (.int .i64 (flF M W NBi : Int)) ∧ Wd = w' := fun Wd => rmark_any (flN M W) (flN_rest M W) false false NBi false Wd
                have HBd : ∀ Wd, Calls Tryz.prog 34 #[.agg #[.int .u64 (a : Int), .int .u32 (N : Int), .int .i64 (j : Int), .int .i64 (flF M W NBi : Int)]] Wd fun e w' => e = .returned (.tuple #[.string T, .int .i64 0]) ∧ Below Wd.heap.size Wd w' := fun Wd => by
                  have := rbuild_any a N (j : Int) (flF M W NBi : Int) (by omega) (by omega) Wd
                  have h2 := flF_lt M W NBi
                  rw [buS, buE, if_pos ⟨by omega, by omega⟩, if_pos ⟨by omega, by omega⟩] at this
                  rw [hE]
                  exact this
                obtain ⟨FN, hFN⟩ : ∃ FN, flN M W = FN := ⟨_, rfl⟩
                obtain ⟨FF, hFF⟩ : ∃ FF, flF M W NBi = FF := ⟨_, rfl⟩
                rw [hFN, hFF] at HMk
                rw [hFF] at HBd
                obtain ⟨Z, hZ, z1⟩ : ∃ Z : Nat, 16 * NAi = Z ∧ (16 : Int) * (NAi : Int) = (Z : Int) := ⟨_, rfl, by omega⟩
                have z2 : (q.ring : Int) + (Z : Int) = (P : Int) := by omega
                have z3 : IntKind.i64.wrap (Z : Int) = (Z : Int) := by rw [IntKind.wrap_i64]; omega
                have z4 : IntKind.i64.wrap (P : Int) = (P : Int) := by rw [IntKind.wrap_i64]; omega
                have v1 : IntKind.i64.wrap ((l.length : Int) - 1) = (l.length : Int) - 1 := by rw [IntKind.wrap_i64]; have := HFs.out.2; omega
                have v2 : IntKind.u64.wrap (a : Int) = (a : Int) := by rw [IntKind.wrap_u64]; omega
                have v3 : IntKind.u32.wrap (N : Int) = (N : Int) := by rw [IntKind.wrap_u32]; omega
                have e1 : (0 : Int) ≤ (i : Int) := by omega
                have e2 : (i : Int) < (l.length : Int) := by omega
                have S5 := Lib.hid S5
                have HPut := Lib.hid HPut
                have HNi := Lib.hid HNi
                have HMk := Lib.hid HMk
                have HBd := Lib.hid HBd
                have Hnx := Lib.hid hnx
                obtain ⟨-, -, c_w⟩ := hcs _ (HPs.out.step S5.out.step HF.out)
                have HCs := Lib.hid hcs
                clear hnx hT hP hP2 hZ hNAi hNBi hE hTs hpl hpa hx hHid hi64 hil ha hN n0 n1 n2 hFF hcs
                subst hAe
                go_upto_if 105 with fail
                go_cut [10] from 95 to 163 (fun fv wx => ∃ f : Nat, f = (if M then 1 else 0) ∧ fv = .int .i64 (f : Int) ∧ wr = wx)
                case first =>
                  cases M
                  · go_wp2_with fail
                    go_meet
                    case rel => exact ⟨0, rfl, rfl, rfl⟩
                  · go_wp2_with fail
                    go_meet
                    case rel => exact ⟨1, rfl, rfl, rfl⟩
                case rest =>
                  obtain ⟨f1, hf1, rfl, rfl⟩ := hcut
                  have hf1l : f1 ≤ 1 := by rw [hf1]; split <;> omega
                  obtain ⟨f2, hf2⟩ : ∃ f2, f1 + 2 = f2 := ⟨_, rfl⟩
                  have v4 : IntKind.i64.wrap ((f1 : Int) + 2) = (f2 : Int) := by rw [IntKind.wrap_i64]; omega
                  have Hf := Lib.hid (And.intro hf1 hf2)
                  clear hf1 hf2 hf1l hM v1
                  go_upto_if 110 with fail
                  go_cut [10] from 95 to 163 (fun fv wx => fv = .int .i64 (FN : Int) ∧ wr = wx)
                  case first =>
                    cases W
                    · go_wp2_with fail
                      go_meet
                      case rel => exact ⟨by rw [← hFN, Hf.out.1]; cases M <;> rfl, rfl⟩
                    · go_wp2_with fail
                      go_meet
                      case rel => exact ⟨by rw [← hFN, ← Hf.out.2, Hf.out.1]; cases M <;> rfl, rfl⟩
                  case rest =>
                    obtain ⟨rfl, rfl⟩ := hcut
                    clear v4 Hf hFN c_w
                    have hb5 := S5.out.blk 1 (by simp) rfl
                    have hlt5 := hb5.lt
                    have hne5 := Nat.ne_of_lt hlt5
                    clear hb5
                    go_upto_region 21 with fail
                    go_cut [11, 12] from 95 to 163 (fun kv _ wx => ∃ K : Nat, kv = .pointer (some ⟨K, 0, none⟩) ∧ St F w (stars [box K 44 #[.int .i64 (NAi : Int), .bool NBi], rmemA g (putN q (l.map IPt.pt) j xs i) (n + i), box gx 48 (q.cellsR g (.slice (some ⟨b4, off4, none⟩) q.hs.length cap)), rowA 3 1 (.slice (some ⟨b4, off4, none⟩) q.hs.length cap) q.hs.length (intsV q.hs)]) wx)
                    case first =>
                      go_region_held3 (fun W => W.cell? ⟨gx, 5, none⟩ = some (.int .i64 (q.na : Int)) ∧ W.cell? ⟨gx, 6, none⟩ = some (.bool q.nw) ∧ W.cell? ⟨gx, 2, none⟩ = some (.int .i64 (q.size : Int)))
                        (with_reducible (first | exact rg_cells S5.out.drew | exact rg_cells (S5.out.alloc _).drew | exact rg_cells (S5.out.drew.below hq) | exact rg_cells ((S5.out.alloc _).drew.below hq) | exact rg_cells ((S5.out.drew.below hq).alloc _) | exact rg_cells (rg_st2 S5.out hq _ _)))
                        ((go_at_call 33; ((with_reducible refine (HNi.out _).mono ?_); rintro e w6 ⟨rfl, hq⟩; obtain ⟨hc1, hf1⟩ := bcell hq; have hz1 := hq.size; (try simp at hz1))))
                      · have S7 := Lib.hid (St.push (S5.out.drew.below hq) 44 #[.int .i64 (NAi : Int), .bool NBi])
                        go_wp2_with fail
                        go_meet
                        case rel => exact ⟨_, rfl, S7.out⟩
                      · have S7 := Lib.hid (rg_keep2 S5.out hq (.int .i64 (NAi : Int)) (.bool NBi))
                        go_wp2_with fail
                        go_meet
                        case rel => exact ⟨_, rfl, S7.out⟩
                    case rest =>
                      obtain ⟨K, rfl, S7⟩ := hcut
                      have hbk := S7.blk 0 (by simp) rfl
                      have hltk := hbk.lt
                      have hnek := Nat.ne_of_lt hltk
                      have hbx := (S7.blk 2 (by simp) rfl)
                      have hltx := hbx.lt
                      have hnex := Nat.ne_of_lt hltx
                      have S7 := Lib.hid S7
                      clear hbk hbx S5 HNi
                      go_wp2_with fail
                      go_region_held3 (fun W => W.cell? ⟨b, off + i * 3, none⟩ = some (.int .i64 (a : Int)) ∧ W.cell? ⟨b, off + i * 3 + 1, none⟩ = some (.int .i64 (N : Int)) ∧ W.cell? ⟨K, 1, none⟩ = some (.bool NBi))
                        (with_reducible (first | exact r22_cells S7.out.drew HPs HF HCs | exact r22_cells (S7.out.drew.below hq) HPs HF HCs))
                        (first | (go_at_call 35; ((with_reducible refine (HMk.out _).mono ?_); rintro e w7 ⟨rfl, rfl⟩)) | (go_at_call 34; ((with_reducible refine (HBd.out _).mono ?_); rintro e w8 ⟨rfl, hq⟩)))
                      have S8 := S7.out.drew.below hq
                      have hltk := (S8.blk 0 (by simp) rfl).lt
                      have hnek := Nat.ne_of_lt hltk
                      have hltx := (S8.blk 2 (by simp) rfl).lt
                      have hnex := Nat.ne_of_lt hltx
                      obtain ⟨F1, hm, hbk⟩ := S8.drew.at 1 (by simp)
                      have HW : Calls Tryz.prog 12 #[.pointer (some ⟨g, 0, none⟩), .int .i64 (P : Int), .string T] w8.drew fun e w' => e = .returned (.int .i64 0) ∧ St F w (stars [box K 44 #[.int .i64 (NAi : Int), .bool NBi], rmemA g (over (putN q (l.map IPt.pt) j xs i) P T) (n + i + 1), box gx 48 (q.cellsR g (.slice (some ⟨b4, off4, none⟩) q.hs.length cap)), rowA 3 1 (.slice (some ⟨b4, off4, none⟩) q.hs.length cap) q.hs.length (intsV q.hs)]) w' :=
                        (HPut.out F1 _ hm).mono fun e w' hh => ⟨hh.1, hbk _ _ hh.2⟩
                      have HW := Lib.hid HW
                      have S8 := Lib.hid S8
                      clear hm hbk hq S7 HMk HBd HPut
                      go_wp2_with fail
                      go_region_held3 (fun W => W.cell? ⟨gx, 0, none⟩ = some (.pointer (some ⟨g, 0, none⟩)) ∧ W.cell? ⟨gx, 1, none⟩ = some (.int .i64 (q.ring : Int)) ∧ W.cell? ⟨K, 0, none⟩ = some (.int .i64 (NAi : Int)))
                        (with_reducible (first | exact r23_cells S8.out.drew | exact r23_cells S9))
                        ((go_at_call 12; ((with_reducible refine HW.out.mono ?_); rintro e w9 ⟨rfl, S9⟩)))
                      have S9 := Lib.hid S9
                      clear S8 HW
                      go_wp2_with fail
                      go_roundw
                      case rel => exact ⟨i + 1, HI.out, by go_num, by rw [Hnx.out]; exact S9.out.pop⟩
                      case measure => have := HI.out; simp [RowKit.intOf]; omega
              · obtain rfl : i = l.length := by omega
                have hb5 := S5.blk 1 (by simp) rfl
                have hlt5 := hb5.lt
                have hne5 := Nat.ne_of_lt hlt5
                have S5 := Lib.hid S5
                clear hb5
                go_wp2_with fail
                go_region_held3 (fun W => W.cell? ⟨gx, 5, none⟩ = some (.int .i64 (q.na : Int)) ∧ W.cell? ⟨gx, 6, none⟩ = some (.bool q.nw) ∧ W.cell? ⟨gx, 2, none⟩ = some (.int .i64 (q.size : Int)))
                  (with_reducible (first | exact rg_cells S5.out.drew | exact rg_cells (S5.out.alloc _).drew | exact rg_cells (S5.out.drew.below hq) | exact rg_cells ((S5.out.alloc _).drew.below hq) | exact rg_cells ((S5.out.drew.below hq).alloc _) | exact rg_cells (rg_st2 S5.out hq _ _)))
                  ((go_at_call 33; ((with_reducible refine (HNx.out _).mono ?_); rintro e w6 ⟨rfl, hq⟩; obtain ⟨hc1, hf1⟩ := bcell hq; have hz1 := hq.size; (try simp at hz1))))
                · have S7 := St.push (S5.out.drew.below hq) 44 #[.int .i64 (NA : Int), .bool NB]
                  obtain ⟨W7, hW7⟩ : ∃ W7, w6.alloc (.cells #[.int .i64 (NA : Int), .bool NB] 44) = W7 := ⟨_, rfl⟩
                  obtain ⟨K2, hK2⟩ : ∃ K2, w6.heap.size = K2 := ⟨_, rfl⟩
                  rw [hW7] at S7 ⊢
                  rw [hK2] at S7 ⊢
                  clear hW7 hK2 hq hc1 hf1 hz1 S5
                  have kb2 := S7.blk 0 (by simp) rfl
                  have kg := S7.blk 2 (by simp) rfl
                  have x0 := kb2.cell 0
                  have x1 := kb2.cell 1
                  simp only [List.getElem?_toArray, List.getElem?_cons_zero, List.getElem?_cons_succ] at x0 x1
                  have c12 : W7.cell? ⟨gx, 12, none⟩ = some (.slice (some ⟨b4, off4, none⟩) q.hs.length cap) := kg.cell 12
                  have c5 : W7.cell? ⟨gx, 5, none⟩ = some (.int .i64 (q.na : Int)) := kg.cell 5
                  have c6 : W7.cell? ⟨gx, 6, none⟩ = some (.bool q.nw) := kg.cell 6
                  have c11 : W7.cell? ⟨gx, 11, none⟩ = some (.int .i64 (q.since : Int)) := kg.cell 11
                  have f5 := kg.frozen 5
                  have f6 := kg.frozen 6
                  have f11 := kg.frozen 11
                  have hltg := kg.lt
                  have hneg := Nat.ne_of_lt hltg
                  have hlt2 := kb2.lt
                  have hne2 := Nat.ne_of_lt hlt2
                  have v9 := HSi.out
                  have P8 := St.pushEmpty (((S7.put 2 (by simp) rfl 5 (.int .i64 (NA : Int))).put 2 (by simp) rfl 6 (.bool NB)).put 2 (by simp) rfl 11 (.int .i64 ((q.since : Int) + (l.length : Int)))) 3 1
                  have ez : (((W7.setCell ⟨gx, 5, none⟩ (.int .i64 (NA : Int))).setCell ⟨gx, 6, none⟩ (.bool NB)).setCell ⟨gx, 11, none⟩ (.int .i64 ((q.since : Int) + (l.length : Int)))).heap.size = W7.heap.size := by simp [World.setCell]
                  rw [ez] at P8
                  have P8 := Lib.hid P8
                  have r1 := Lib.hid (P8.out.row 0 (by simp) rfl)
                  have r0 := Lib.hid (P8.out.row 4 (by simp) rfl)
                  clear S7 kb2 kg
                  go_wp2_with (
                    at_builtin
                    refine wpList_append_lies _ rfl (.tmp 192) (.tmp 196) 46 rfl 0 3 i0 _ 1 8 Tryz.underlying46 HTi.out HZ0.out HZ1.out HZ2.out rfl (by decide) (.slice (some ⟨W7.heap.size, 0, none⟩) 0 0) 0 [] rfl r1.out ⟨b4, off4, none⟩ q.hs.length cap (intsV q.hs) rfl (by simp [intsV]) (own_cells_at r0.out Hn.out.1) (ints_one _) Hn.out.1 (by have := Hn.out.2; unfold maxLen; omega) (by have := Hn.out.2; omega) (Nat.zero_le _) _ rfl ?_
                    intro g3 cap3 w9 hown hgrow hat hlt3
                    have S9 := P8.out.grow 0 (by simp) rfl hown hgrow (fun x hk => by
                      have e : g3 = x := by simpa [Value.ownBlock] using hk
                      subst e
                      rcases hat with e | e
                      · exact .inl e
                      · right; rw [e]; exact Nat.le_refl _)
                    rw [Nat.zero_add, List.nil_append] at S9 hown
                    obtain ⟨cur, hcur, hcl⟩ := own_blk3 hown Hn.out.1
                    have hci : j < cur.size := by have := HJl.out; omega
                    obtain ⟨cv, y0⟩ : ∃ cv, w9.cell? ⟨g3, j, none⟩ = some cv := ⟨_, (hcur.cell j).trans (Array.getElem?_eq_getElem hci)⟩
                    have y1 := hcur.frozen j
                    have kg := S9.blk 3 (by simp) rfl
                    have e1 := own_ne hown kg (by decide)
                    have n1 : g3 ≠ gx := fun e => e1 (by simp [Value.ownBlock, e])
                    have n2 : gx ≠ g3 := fun e => n1 e.symm
                    have c12 : w9.cell? ⟨gx, 12, none⟩ = some (.slice (some ⟨b4, off4, none⟩) q.hs.length cap) := kg.cell 12
                    have f12 := kg.frozen 12
                    have hltg := kg.lt
                    have hneg := Nat.ne_of_lt hltg
                    have hne3 := Nat.ne_of_lt hlt3
                    have j1 : (0 : Int) ≤ (j : Int) := by omega
                    have j2 : (j : Int) < (q.hs.length : Int) := by have := HJl.out; omega
                    have S9 := Lib.hid S9
                    clear P8 r1 r0 hown hgrow hat hcur kg e1 hcl hci)
                  have S11 := Lib.hid ((S9.out.putRow 0 (by simp) rfl j (.int .i64 (l.length : Int))).put 3 (by simp) rfl 12 (.slice (some ⟨g3, 0, none⟩) q.hs.length cap3))
                  clear S9
                  go_ret2
                  refine ⟨by rw [HJ.out]; rfl, ?_⟩
                  rw [← HJ.out]
                  exact post_shut ((S11.out.erase 4 (by simp)).erase 1 (by simp)).rot3 HNA.out HNB.out HJ.out
                · have S7 := rg_keep2 S5.out hq (.int .i64 (NA : Int)) (.bool NB)
                  obtain ⟨W7, hW7⟩ : ∃ W7, (w6.setCell ⟨wr.heap.size, 0, none⟩ (.int .i64 (NA : Int))).setCell ⟨wr.heap.size, 1, none⟩ (.bool NB) = W7 := ⟨_, rfl⟩
                  obtain ⟨K2, hK2⟩ : ∃ K2, wr.heap.size = K2 := ⟨_, rfl⟩
                  rw [hW7] at S7 ⊢
                  rw [hK2] at S7 ⊢
                  clear hW7 hK2 hq hc1 hf1 hz1 S5
                  have kb2 := S7.blk 0 (by simp) rfl
                  have kg := S7.blk 2 (by simp) rfl
                  have x0 := kb2.cell 0
                  have x1 := kb2.cell 1
                  simp only [List.getElem?_toArray, List.getElem?_cons_zero, List.getElem?_cons_succ] at x0 x1
                  have c12 : W7.cell? ⟨gx, 12, none⟩ = some (.slice (some ⟨b4, off4, none⟩) q.hs.length cap) := kg.cell 12
                  have c5 : W7.cell? ⟨gx, 5, none⟩ = some (.int .i64 (q.na : Int)) := kg.cell 5
                  have c6 : W7.cell? ⟨gx, 6, none⟩ = some (.bool q.nw) := kg.cell 6
                  have c11 : W7.cell? ⟨gx, 11, none⟩ = some (.int .i64 (q.since : Int)) := kg.cell 11
                  have f5 := kg.frozen 5
                  have f6 := kg.frozen 6
                  have f11 := kg.frozen 11
                  have hltg := kg.lt
                  have hneg := Nat.ne_of_lt hltg
                  have hlt2 := kb2.lt
                  have hne2 := Nat.ne_of_lt hlt2
                  have v9 := HSi.out
                  have P8 := St.pushEmpty (((S7.put 2 (by simp) rfl 5 (.int .i64 (NA : Int))).put 2 (by simp) rfl 6 (.bool NB)).put 2 (by simp) rfl 11 (.int .i64 ((q.since : Int) + (l.length : Int)))) 3 1
                  have ez : (((W7.setCell ⟨gx, 5, none⟩ (.int .i64 (NA : Int))).setCell ⟨gx, 6, none⟩ (.bool NB)).setCell ⟨gx, 11, none⟩ (.int .i64 ((q.since : Int) + (l.length : Int)))).heap.size = W7.heap.size := by simp [World.setCell]
                  rw [ez] at P8
                  have P8 := Lib.hid P8
                  have r1 := Lib.hid (P8.out.row 0 (by simp) rfl)
                  have r0 := Lib.hid (P8.out.row 4 (by simp) rfl)
                  clear S7 kb2 kg
                  go_wp2_with (
                    at_builtin
                    refine wpList_append_lies _ rfl (.tmp 192) (.tmp 196) 46 rfl 0 3 i0 _ 1 8 Tryz.underlying46 HTi.out HZ0.out HZ1.out HZ2.out rfl (by decide) (.slice (some ⟨W7.heap.size, 0, none⟩) 0 0) 0 [] rfl r1.out ⟨b4, off4, none⟩ q.hs.length cap (intsV q.hs) rfl (by simp [intsV]) (own_cells_at r0.out Hn.out.1) (ints_one _) Hn.out.1 (by have := Hn.out.2; unfold maxLen; omega) (by have := Hn.out.2; omega) (Nat.zero_le _) _ rfl ?_
                    intro g3 cap3 w9 hown hgrow hat hlt3
                    have S9 := P8.out.grow 0 (by simp) rfl hown hgrow (fun x hk => by
                      have e : g3 = x := by simpa [Value.ownBlock] using hk
                      subst e
                      rcases hat with e | e
                      · exact .inl e
                      · right; rw [e]; exact Nat.le_refl _)
                    rw [Nat.zero_add, List.nil_append] at S9 hown
                    obtain ⟨cur, hcur, hcl⟩ := own_blk3 hown Hn.out.1
                    have hci : j < cur.size := by have := HJl.out; omega
                    obtain ⟨cv, y0⟩ : ∃ cv, w9.cell? ⟨g3, j, none⟩ = some cv := ⟨_, (hcur.cell j).trans (Array.getElem?_eq_getElem hci)⟩
                    have y1 := hcur.frozen j
                    have kg := S9.blk 3 (by simp) rfl
                    have e1 := own_ne hown kg (by decide)
                    have n1 : g3 ≠ gx := fun e => e1 (by simp [Value.ownBlock, e])
                    have n2 : gx ≠ g3 := fun e => n1 e.symm
                    have c12 : w9.cell? ⟨gx, 12, none⟩ = some (.slice (some ⟨b4, off4, none⟩) q.hs.length cap) := kg.cell 12
                    have f12 := kg.frozen 12
                    have hltg := kg.lt
                    have hneg := Nat.ne_of_lt hltg
                    have hne3 := Nat.ne_of_lt hlt3
                    have j1 : (0 : Int) ≤ (j : Int) := by omega
                    have j2 : (j : Int) < (q.hs.length : Int) := by have := HJl.out; omega
                    have S9 := Lib.hid S9
                    clear P8 r1 r0 hown hgrow hat hcur kg e1 hcl hci)
                  have S11 := Lib.hid ((S9.out.putRow 0 (by simp) rfl j (.int .i64 (l.length : Int))).put 3 (by simp) rfl 12 (.slice (some ⟨g3, 0, none⟩) q.hs.length cap3))
                  clear S9
                  go_ret2
                  refine ⟨by rw [HJ.out]; rfl, ?_⟩
                  rw [← HJ.out]
                  exact post_shut ((S11.out.erase 4 (by simp)).erase 1 (by simp)).rot3 HNA.out HNB.out HJ.out
end Go.Proofs.YtbpgblmhacpjlaaGreat

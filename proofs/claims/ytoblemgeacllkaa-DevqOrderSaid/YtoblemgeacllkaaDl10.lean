/-
  DevqOrder's walk: chains that a right driver made available are taken in order, each once, with just its parts; no condition.
-/
import Derived.Test.YtoblemgeacllkaaDl9
import Derived.Test.YtoblemgeacllkaaDl3
namespace Go.Proofs.Ytoblemgeacllkaa
open Go.RowKit

set_option maxRecDepth 100000 in
set_option maxHeartbeats 25600000 in
theorem order_small (size : Int) (A : Option Addr) (m c : Nat) (w : World) (hA : IntsAt A m w) (n : Nat) (X : Nat) (eX : bits .and .i64 size 31 = (X : Int)) (hn : 1 + X = n) (hn2 : n ≤ 32) (h4 : n ≤ 4) :
    Calls Try.prog 4 #[.int .i64 size, .slice A m c] w fun e w' => e = .returned (.bool true) ∧ Below w.heap.size w w' := by
  have hn1 : 1 ≤ n := by omega
  have en : (1 : Int) + (X : Int) = (n : Int) := by omega
  have HL := Lib.hid (laid_ord n hn1 hn2)
  have HF := Lib.hid fixed_any
  have hb1 := ba (Below.refl w.heap.size w) (.cells #[.int .i64 0, .int .i64 (n : Int), .int .i64 1024, .int .i64 1028] 23)
  have HA := Lib.hid hA
  clear hn hA
  go_enter Try.func4, Try.ntmps4
  go_wp2_with fail
  refine (HL.out _).mono ?_
  rintro e w1 ⟨gq, g, gb, gx, rfl, O1⟩
  obtain ⟨w0, hw0⟩ : ∃ w0, w.alloc (.cells #[.int .i64 0, .int .i64 (n : Int), .int .i64 1024, .int .i64 1028] 23) = w0 := ⟨_, rfl⟩
  rw [hw0] at hb1 O1
  have O1 := Lib.hid O1
  have HB0 := Lib.hid hb1
  clear hw0 HL hb1 eX en
  go_wp2_with fail
  go_loopw [11, 12, 13] (fun pl wv iv wr => ∃ (i p : Nat) (v : Bool) (si : Nat) (xs : List UInt8), iv = .int .i64 i ∧ pl = .int .i64 p ∧ wv = .bool v ∧ i ≤ m ∧ i ≤ 60 ∧ p < n ∧ si ≤ 4 * i ∧ xs.length = 2048 ∧ Idle xs n p v ∧ Ow w0 gq g gb xs (Dq n p v 0 true si) wr) (fun _ _ iv _ => 60 - (intOf iv).toNat)
  case atStart => exact ⟨0, 0, true, 0, _, rfl, rfl, rfl, Nat.zero_le _, Nat.zero_le _, by omega, Nat.zero_le _, List.length_replicate .., idle_zero hn2, O1.out⟩
  case round =>
    obtain ⟨i, p, v, si, xs, rfl, rfl, rfl, him, hi60, hp, hsi, hx, hI, O2⟩ := hrel
    have O2 := Lib.hid O2
    have HI := Lib.hid hI
    clear hI
    by_cases hlt : i < m ∧ i < 60
    · obtain ⟨l1, l2⟩ := hlt
      have hbw := b0 HB0.out O2.out.below
      obtain ⟨b1, off, z, rfl, hb1', hcell⟩ := HA.out.cell hbw i l1
      have hb1' := Nat.lt_of_lt_of_le hb1' hbw.size
      obtain ⟨Y, hY, eY⟩ := and16 z
      obtain ⟨R, hR, eR⟩ : ∃ R : Nat, R < n ∧ (Y : Int).tmod (n : Int) = (R : Int) := by
        refine ⟨((Y : Int).tmod (n : Int)).toNat, ?_, ?_⟩
        · have := Int.tmod_lt_of_pos (Y : Int) (show (0 : Int) < (n : Int) by omega); have := Int.tmod_nonneg (n : Int) (show (0 : Int) ≤ (Y : Int) by omega); omega
        · have := Int.tmod_nonneg (n : Int) (show (0 : Int) ≤ (Y : Int) by omega); omega
      obtain ⟨k, hk0, ek⟩ : ∃ k : Nat, 1 + R = k ∧ (1 : Int) + (R : Int) = (k : Int) := ⟨_, rfl, by omega⟩
      have hk1 : 1 ≤ k := by omega
      have hk4 : k ≤ 4 := by omega
      have hkn : k ≤ n := by omega
      have hz : ¬ (n : Int) = 0 := by omega
      have him1 : (i : Int) < (m : Int) := by omega
      have hi61 : (i : Int) < 60 := by omega
      clear hR hk0 hY
      go_wp2_with fail
      clear hcell eY eR ek hz
      obtain ⟨L, hL0, hL⟩ : ∃ L : Nat, 1 + i % 9 = L ∧ (1 : Int) + (i : Int) % 9 = (L : Int) := ⟨_, rfl, by omega⟩
      have hLl : L ≤ 10 := by omega
      have o3 : bits .or .i64 1 2 = 3 := by decide
      have o2 : bits .or .i64 0 2 = 2 := by decide
      have kL : IntKind.u32.wrap (L : Int) = (L : Int) := IntWalk.u32_in _ (by omega)
      go_loopw [15] (fun jv wr => ∃ j : Nat, j ≤ k ∧ jv = .int .i64 j ∧ Ow w0 gq g gb (wrC xs n p v i k j) (Dq n p v 0 true si) wr) (fun jv _ => k - (intOf jv).toNat)
      case atStart => exact ⟨0, Nat.zero_le _, rfl, O2.out⟩
      case round =>
        obtain ⟨j, hj0, rfl, O3⟩ := hrel
        by_cases hj : j < k
        · have hJ := Lib.hid hj
          obtain ⟨a, ha0, ha⟩ : ∃ a : Nat, 1032 + 16 * j = a ∧ (1032 : Int) + 16 * (j : Int) = (a : Int) := ⟨_, rfl, by omega⟩
          have ka : IntKind.u64.wrap (a : Int) = (a : Int) := IntWalk.u64_in _ (by omega)
          have ka1 : IntKind.i64.wrap (a : Int) = (a : Int) := IntWalk.i64_in _ (by omega)
          obtain ⟨F, hF⟩ : ∃ F, drvF n p v k j = F := ⟨_, rfl⟩
          have hFl : F ≤ 65535 := by rw [← hF]; exact drvF_lt n p v k j
          obtain ⟨S, hS⟩ : ∃ S, desB a L i F = S := ⟨_, rfl⟩
          obtain ⟨b, hb⟩ : ∃ b, 16 * stA n p j = b := ⟨_, rfl⟩
          have hsl := stA_lt (k := j) hp (by omega)
          have HB := Lib.hid (build_is a L i F (by omega) (by omega) (by omega) hFl S hS)
          have HW := Lib.hid (fun W (h : Ow w0 gq g gb (wrC xs n p v i k j) (Dq n p v 0 true si) W) => ord_write h hx hn2 hp (by omega) a L F b S ha0 hL0 hF hS hb)
          have O3 := Lib.hid O3
          by_cases e1 : j + 1 < k
          · by_cases e2 : 0 < j
            · by_cases e3 : n ≤ p + j
              · have q1 : (j : Int) < (k : Int) - 1 := by omega
                have q2 : 0 < (j : Int) := by omega
                obtain ⟨t, ht⟩ : ∃ t : Nat, (p : Int) + (j : Int) = (t : Int) := ⟨p + j, by omega⟩
                have q3 : (n : Int) ≤ (t : Int) := by omega
                obtain ⟨u, hu, hu0⟩ : ∃ u : Nat, (t : Int) - (n : Int) = (u : Int) ∧ stA n p j = u := ⟨p + j - n, by omega, by unfold stA; rw [if_neg (by omega)]⟩
                have hr : stW n p j v = !v := by unfold stW; rw [if_neg (by omega)]
                have hb1 : (16 : Int) * (u : Int) = (b : Int) := by omega
                have hfl : flg k j = 3 := by unfold flg; rw [if_pos (by omega), if_pos (by omega)]
                have hFm : 3 + mk (!v) ((!v) == false) = F := by rw [← hF, drvF, hfl, hr]
                have HM : ∀ W, Calls Try.prog 28 #[.int .i64 3, .bool (!v), .bool false] W fun e W' => e = .returned (.int .i64 (F : Int)) ∧ W = W' := drv_mark 3 ⟨by decide, by decide, by decide⟩ (!v) F hFm
                have HM := Lib.hid HM
                clear hfl hFm hr hu0 hF hS hb ha0 hsl hj
                go_wp2_with (first | (go_at_call 28; ((with_reducible refine (HM.out _).mono ?_); rintro e w4 ⟨rfl, rfl⟩)) | (go_at_call 29; ((with_reducible refine (HB.out _).mono ?_); rintro e w5 ⟨rfl, hq⟩)))
                refine (HW.out _ (O3.out.next (b0 (ba (Below.refl _ _) _) hq))).mono ?_
                rintro e w6 ⟨rfl, O6⟩
                clear O3 hq HB HW HM
                go_wp2_with fail
                skip
                go_roundw
                case rel => exact ⟨j + 1, by have := hJ.out; omega, by go_num, O6⟩
                case measure => have := hJ.out; simp [intOf]; omega
              · have q1 : (j : Int) < (k : Int) - 1 := by omega
                have q2 : 0 < (j : Int) := by omega
                obtain ⟨t, ht⟩ : ∃ t : Nat, (p : Int) + (j : Int) = (t : Int) := ⟨p + j, by omega⟩
                have q3 : ¬ (n : Int) ≤ (t : Int) := by omega
                have hu0 : stA n p j = t := by unfold stA; rw [if_pos (by omega)]; omega
                have hr : stW n p j v = v := by unfold stW; rw [if_pos (by omega)]
                have hb1 : (16 : Int) * (t : Int) = (b : Int) := by omega
                have hfl : flg k j = 3 := by unfold flg; rw [if_pos (by omega), if_pos (by omega)]
                have hFm : 3 + mk (v) ((v) == false) = F := by rw [← hF, drvF, hfl, hr]
                have HM : ∀ W, Calls Try.prog 28 #[.int .i64 3, .bool (v), .bool false] W fun e W' => e = .returned (.int .i64 (F : Int)) ∧ W = W' := drv_mark 3 ⟨by decide, by decide, by decide⟩ (v) F hFm
                have HM := Lib.hid HM
                clear hfl hFm hr hu0 hF hS hb ha0 hsl hj
                go_wp2_with (first | (go_at_call 28; ((with_reducible refine (HM.out _).mono ?_); rintro e w4 ⟨rfl, rfl⟩)) | (go_at_call 29; ((with_reducible refine (HB.out _).mono ?_); rintro e w5 ⟨rfl, hq⟩)))
                refine (HW.out _ (O3.out.next (b0 (ba (Below.refl _ _) _) hq))).mono ?_
                rintro e w6 ⟨rfl, O6⟩
                clear O3 hq HB HW HM
                go_wp2_with fail
                skip
                go_roundw
                case rel => exact ⟨j + 1, by have := hJ.out; omega, by go_num, O6⟩
                case measure => have := hJ.out; simp [intOf]; omega
            · by_cases e3 : n ≤ p + j
              · exact absurd hp (by omega)
              · have q1 : (j : Int) < (k : Int) - 1 := by omega
                have q2 : ¬ 0 < (j : Int) := by omega
                obtain ⟨t, ht⟩ : ∃ t : Nat, (p : Int) + (j : Int) = (t : Int) := ⟨p + j, by omega⟩
                have q3 : ¬ (n : Int) ≤ (t : Int) := by omega
                have hu0 : stA n p j = t := by unfold stA; rw [if_pos (by omega)]; omega
                have hr : stW n p j v = v := by unfold stW; rw [if_pos (by omega)]
                have hb1 : (16 : Int) * (t : Int) = (b : Int) := by omega
                have hfl : flg k j = 1 := by unfold flg; rw [if_pos (by omega), if_neg (by omega)]
                have hFm : 1 + mk (v) ((v) == false) = F := by rw [← hF, drvF, hfl, hr]
                have HM : ∀ W, Calls Try.prog 28 #[.int .i64 1, .bool (v), .bool false] W fun e W' => e = .returned (.int .i64 (F : Int)) ∧ W = W' := drv_mark 1 ⟨by decide, by decide, by decide⟩ (v) F hFm
                have HM := Lib.hid HM
                clear hfl hFm hr hu0 hF hS hb ha0 hsl hj
                go_wp2_with (first | (go_at_call 28; ((with_reducible refine (HM.out _).mono ?_); rintro e w4 ⟨rfl, rfl⟩)) | (go_at_call 29; ((with_reducible refine (HB.out _).mono ?_); rintro e w5 ⟨rfl, hq⟩)))
                refine (HW.out _ (O3.out.next (b0 (ba (Below.refl _ _) _) hq))).mono ?_
                rintro e w6 ⟨rfl, O6⟩
                clear O3 hq HB HW HM
                go_wp2_with fail
                skip
                go_roundw
                case rel => exact ⟨j + 1, by have := hJ.out; omega, by go_num, O6⟩
                case measure => have := hJ.out; simp [intOf]; omega
          · by_cases e2 : 0 < j
            · by_cases e3 : n ≤ p + j
              · have q1 : ¬ (j : Int) < (k : Int) - 1 := by omega
                have q2 : 0 < (j : Int) := by omega
                obtain ⟨t, ht⟩ : ∃ t : Nat, (p : Int) + (j : Int) = (t : Int) := ⟨p + j, by omega⟩
                have q3 : (n : Int) ≤ (t : Int) := by omega
                obtain ⟨u, hu, hu0⟩ : ∃ u : Nat, (t : Int) - (n : Int) = (u : Int) ∧ stA n p j = u := ⟨p + j - n, by omega, by unfold stA; rw [if_neg (by omega)]⟩
                have hr : stW n p j v = !v := by unfold stW; rw [if_neg (by omega)]
                have hb1 : (16 : Int) * (u : Int) = (b : Int) := by omega
                have hfl : flg k j = 2 := by unfold flg; rw [if_neg (by omega), if_pos (by omega)]
                have hFm : 2 + mk (!v) ((!v) == false) = F := by rw [← hF, drvF, hfl, hr]
                have HM : ∀ W, Calls Try.prog 28 #[.int .i64 2, .bool (!v), .bool false] W fun e W' => e = .returned (.int .i64 (F : Int)) ∧ W = W' := drv_mark 2 ⟨by decide, by decide, by decide⟩ (!v) F hFm
                have HM := Lib.hid HM
                clear hfl hFm hr hu0 hF hS hb ha0 hsl hj
                go_wp2_with (first | (go_at_call 28; ((with_reducible refine (HM.out _).mono ?_); rintro e w4 ⟨rfl, rfl⟩)) | (go_at_call 29; ((with_reducible refine (HB.out _).mono ?_); rintro e w5 ⟨rfl, hq⟩)))
                refine (HW.out _ (O3.out.next (b0 (ba (Below.refl _ _) _) hq))).mono ?_
                rintro e w6 ⟨rfl, O6⟩
                clear O3 hq HB HW HM
                go_wp2_with fail
                skip
                go_roundw
                case rel => exact ⟨j + 1, by have := hJ.out; omega, by go_num, O6⟩
                case measure => have := hJ.out; simp [intOf]; omega
              · have q1 : ¬ (j : Int) < (k : Int) - 1 := by omega
                have q2 : 0 < (j : Int) := by omega
                obtain ⟨t, ht⟩ : ∃ t : Nat, (p : Int) + (j : Int) = (t : Int) := ⟨p + j, by omega⟩
                have q3 : ¬ (n : Int) ≤ (t : Int) := by omega
                have hu0 : stA n p j = t := by unfold stA; rw [if_pos (by omega)]; omega
                have hr : stW n p j v = v := by unfold stW; rw [if_pos (by omega)]
                have hb1 : (16 : Int) * (t : Int) = (b : Int) := by omega
                have hfl : flg k j = 2 := by unfold flg; rw [if_neg (by omega), if_pos (by omega)]
                have hFm : 2 + mk (v) ((v) == false) = F := by rw [← hF, drvF, hfl, hr]
                have HM : ∀ W, Calls Try.prog 28 #[.int .i64 2, .bool (v), .bool false] W fun e W' => e = .returned (.int .i64 (F : Int)) ∧ W = W' := drv_mark 2 ⟨by decide, by decide, by decide⟩ (v) F hFm
                have HM := Lib.hid HM
                clear hfl hFm hr hu0 hF hS hb ha0 hsl hj
                go_wp2_with (first | (go_at_call 28; ((with_reducible refine (HM.out _).mono ?_); rintro e w4 ⟨rfl, rfl⟩)) | (go_at_call 29; ((with_reducible refine (HB.out _).mono ?_); rintro e w5 ⟨rfl, hq⟩)))
                refine (HW.out _ (O3.out.next (b0 (ba (Below.refl _ _) _) hq))).mono ?_
                rintro e w6 ⟨rfl, O6⟩
                clear O3 hq HB HW HM
                go_wp2_with fail
                skip
                go_roundw
                case rel => exact ⟨j + 1, by have := hJ.out; omega, by go_num, O6⟩
                case measure => have := hJ.out; simp [intOf]; omega
            · by_cases e3 : n ≤ p + j
              · exact absurd hp (by omega)
              · have q1 : ¬ (j : Int) < (k : Int) - 1 := by omega
                have q2 : ¬ 0 < (j : Int) := by omega
                obtain ⟨t, ht⟩ : ∃ t : Nat, (p : Int) + (j : Int) = (t : Int) := ⟨p + j, by omega⟩
                have q3 : ¬ (n : Int) ≤ (t : Int) := by omega
                have hu0 : stA n p j = t := by unfold stA; rw [if_pos (by omega)]; omega
                have hr : stW n p j v = v := by unfold stW; rw [if_pos (by omega)]
                have hb1 : (16 : Int) * (t : Int) = (b : Int) := by omega
                have hfl : flg k j = 0 := by unfold flg; rw [if_neg (by omega), if_neg (by omega)]
                have hFm : 0 + mk (v) ((v) == false) = F := by rw [← hF, drvF, hfl, hr]
                have HM : ∀ W, Calls Try.prog 28 #[.int .i64 0, .bool (v), .bool false] W fun e W' => e = .returned (.int .i64 (F : Int)) ∧ W = W' := drv_mark 0 ⟨by decide, by decide, by decide⟩ (v) F hFm
                have HM := Lib.hid HM
                clear hfl hFm hr hu0 hF hS hb ha0 hsl hj
                go_wp2_with (first | (go_at_call 28; ((with_reducible refine (HM.out _).mono ?_); rintro e w4 ⟨rfl, rfl⟩)) | (go_at_call 29; ((with_reducible refine (HB.out _).mono ?_); rintro e w5 ⟨rfl, hq⟩)))
                refine (HW.out _ (O3.out.next (b0 (ba (Below.refl _ _) _) hq))).mono ?_
                rintro e w6 ⟨rfl, O6⟩
                clear O3 hq HB HW HM
                go_wp2_with fail
                skip
                go_roundw
                case rel => exact ⟨j + 1, by have := hJ.out; omega, by go_num, O6⟩
                case measure => have := hJ.out; simp [intOf]; omega
        · have hjk : ¬ (j : Int) < (k : Int) := by omega
          have hjk2 : j = k := by omega
          rw [hjk2] at O3
          have O3 := Lib.hid O3
          clear hj0 hjk2 hj O2
          go_wp2_with fail
          refine (ord_next O3.out hx hn2 hp (by omega) hk1 hk4 hkn).mono ?_
          rintro e w4 ⟨Ac, cap, rfl, hP, O4⟩
          have bk := ba (Below.refl w4.heap.size w4) (.cells #[.int .i64 (i : Int), .int .i64 (k : Int), .slice Ac k cap] 51)
          have k4 := Blk.new w4 51 #[.int .i64 (i : Int), .int .i64 (k : Int), .slice Ac k cap]
          have hP := Lib.hid (hP.below bk)
          have O5 := Lib.hid (O4.next bk)
          have e1 : ((i : Int) != (i : Int)) = false := by simp
          have e2 : ((k : Int) != (k : Int)) = false := by simp
          clear bk O4 O3
          go_wp2_with fail
          refine (ord_out1 O5.out).mono ?_
          rintro e w6 ⟨rfl, rfl⟩
          go_wp2_with fail
          go_loopw [24] (fun jv wr => ∃ j2 : Nat, j2 ≤ k ∧ jv = .int .i64 j2 ∧ Blk wr w4.heap.size 51 #[.int .i64 (i : Int), .int .i64 (k : Int), .slice Ac k cap] ∧ PtsAt Ac ((List.range' 0 k).map (drvPt i)) wr ∧ Ow w0 gq g gb (wrC xs n p v i k k) (Dq1 n p v 0 true si k) wr) (fun jv _ => k - (intOf jv).toNat)
          case atStart => exact ⟨0, Nat.zero_le _, rfl, k4, hP.out, O5.out⟩
          case round =>
            obtain ⟨j2, hj2, rfl, k5, hP5, O6⟩ := hrel
            have x2 := k5.cell 2
            simp only [List.getElem?_toArray, List.getElem?_cons_zero, List.getElem?_cons_succ] at x2
            clear k4 hP O5
            by_cases hj : j2 < k
            · obtain ⟨gl, rfl, d0, d1, d2⟩ := ord_pt hP5 hj
              obtain ⟨a, ha0, ha⟩ : ∃ a : Nat, 1032 + 16 * j2 = a ∧ (1032 : Int) + 16 * (j2 : Int) = (a : Int) := ⟨_, rfl, by omega⟩
              rw [ha0] at d0
              rw [hL0] at d1
              have HJ := Lib.hid hj
              have K5 := Lib.hid k5
              have P5 := Lib.hid hP5
              have O6 := Lib.hid O6
              have hj3 : (j2 : Int) < (k : Int) := by omega
              by_cases h0 : 0 < j2
              · have d2 := d2.trans (show some (Value.bool (decide (0 < j2))) = some (Value.bool true) by rw [decide_eq_true h0])
                have h1 : 0 < (j2 : Int) := by omega
                clear ha0 hj k5 hP5 h0
                go_wp2_with fail
                go_roundw
                case rel => exact ⟨j2 + 1, by have := HJ.out; omega, by go_num, K5.out, P5.out, O6.out⟩
                case measure => have := HJ.out; simp [intOf]; omega
              · have d2 := d2.trans (show some (Value.bool (decide (0 < j2))) = some (Value.bool false) by rw [decide_eq_false h0])
                have h1 : ¬ 0 < (j2 : Int) := by omega
                clear ha0 hj k5 hP5 h0
                go_wp2_with fail
                go_roundw
                case rel => exact ⟨j2 + 1, by have := HJ.out; omega, by go_num, K5.out, P5.out, O6.out⟩
                case measure => have := HJ.out; simp [intOf]; omega
            · have hj3 : ¬ (j2 : Int) < (k : Int) := by omega
              have O6 := Lib.hid O6
              obtain ⟨V, hV0, hV⟩ : ∃ V : Nat, V = i % 3 ∧ (i : Int) % 3 = (V : Int) := ⟨_, rfl, by omega⟩
              obtain ⟨Y, hY⟩ : ∃ Y, Y = usedX (wrC xs n p v i k k) (Dq1 n p v 0 true si k) i V := ⟨_, rfl⟩
              have hYI : Idle Y n (stA n p k) (stW n p k v) := by rw [hY]; exact idle_drv hx hn2 hp (by omega) hk1 hkn 0 true si V (by omega) HI.out
              have hYL : Y.length = 2048 := by
                have hl := wrC_length (w := v) (i := i) (k := k) hx hn2 hp k hkn
                rw [hY, usedX_length _ _ _ _ (by rw [hl]; exact Dq1_ok hn2 hp hkn 0 true si (by omega)), hl]
              have hpl := stA_lt (k := k) hp hkn
              have H7 : ∀ W, Ow w0 gq g gb (wrC xs n p v i k k) (Dq1 n p v 0 true si k) W → Calls Try.prog 14 #[.pointer (some ⟨gq, 0, none⟩), .int .i64 (i : Int), .int .i64 (k : Int), .int .i64 (V : Int)] W fun e W' => e = .returned (.int .i64 0) ∧ Ow w0 gq g gb Y (Dq n (stA n p k) (stW n p k v) 0 true (si + k)) W' ∧ Far W W' := fun W h => by rw [hY]; exact ord_done h hx hn2 hp (by omega) hk1 hkn (by omega) (by omega)
              obtain ⟨pb, hpb⟩ : ∃ pb : Nat, (16 : Int) * (p : Int) = (pb : Int) := ⟨16 * p, by omega⟩
              obtain ⟨pc, hpc⟩ : ∃ pc : Nat, (pb : Int) + 14 = (pc : Int) := ⟨pb + 14, by omega⟩
              obtain ⟨F, hF⟩ : ∃ F, usedF v V = F := ⟨_, rfl⟩
              have hFl := usedF_lt v V F hF
              have kF : IntKind.i64.wrap (F : Int) = (F : Int) := IntWalk.i64_in _ (by omega)
              have HA2 := Lib.hid (usedF_and v V F hF)
              have HU := Lib.hid (used_is v V F hF)
              have HL8 := Lib.hid (fun W (Q : Qs) (h : Ow w0 gq g gb Y Q W) => ord_load h hY hx hn2 hp hkn pc F (by omega) hF)
              have H7 := Lib.hid H7
              obtain ⟨p', hp'⟩ : ∃ p', stA n p k = p' := ⟨_, rfl⟩
              obtain ⟨v', hv'⟩ : ∃ v', stW n p k v = v' := ⟨_, rfl⟩
              rw [hp', hv'] at H7 hYI
              rw [hp'] at hpl
              have HYI := Lib.hid hYI
              have HYL := Lib.hid hYL
              have HPL := Lib.hid hpl
              have bi : i < m := l1
              clear hV0 hY hYI hYL hpl hFl hF x2 hj hP5 k5 hj2
              obtain ⟨t, ht⟩ : ∃ t : Nat, (p : Int) + (k : Int) = (t : Int) := ⟨p + k, by omega⟩
              by_cases e3 : n ≤ p + k
              · by_cases hV1 : 0 < V
                · have q3 : (n : Int) ≤ (t : Int) := by omega
                  obtain ⟨u, hu, hu0⟩ : ∃ u : Nat, (t : Int) - (n : Int) = (u : Int) ∧ p' = u := ⟨p + k - n, by omega, by rw [← hp']; unfold stA; rw [if_neg (by omega)]⟩
                  have hr : v' = !v := by rw [← hv']; unfold stW; rw [if_neg (by omega)]
                  subst hu0 hr
                  have q4 : 0 < (V : Int) := by omega
                  have q5 := HA2.out
                  rw [if_pos hV1] at q5
                  clear hp' hv' e3
                  have O6 := O6
                  go_wp2_with fail
                  refine (H7.out _ O6.out).mono ?_
                  rintro e w7 ⟨rfl, O7, -⟩
                  have O7 := Lib.hid O7
                  clear H7 O6
                  go_wp2_with fail
                  refine (ord_out O7.out).mono ?_
                  rintro e w8 ⟨rfl, rfl⟩
                  go_wp2_with fail
                  refine (HL8.out _ _ O7.out).mono ?_
                  rintro e w8 ⟨rfl, O8⟩
                  have O8 := Lib.hid O8
                  clear O7 HL8
                  go_wp2_with fail
                  refine (HU.out _).mono ?_
                  rintro e w9 ⟨rfl, rfl⟩
                  go_wp2_with fail
                  refine (ord_idle O8.out HYL.out hn2 HPL.out HYI.out).mono ?_
                  rintro e w9 ⟨A9, c9, rfl, O9⟩
                  have O10 := Lib.hid (O9.next (ba (Below.refl _ _) (.cells #[.int .i64 0, .int .i64 0, .slice A9 0 c9] 51)))
                  clear O8 O9
                  go_wp2_with fail
                  go_roundw
                  case rel => exact ⟨i + 1, _, _, si + k, Y, by go_num, rfl, rfl, by omega, by omega, HPL.out, by omega, HYL.out, HYI.out, O10.out⟩
                  case measure => simp [intOf]; omega
                · have q3 : (n : Int) ≤ (t : Int) := by omega
                  obtain ⟨u, hu, hu0⟩ : ∃ u : Nat, (t : Int) - (n : Int) = (u : Int) ∧ p' = u := ⟨p + k - n, by omega, by rw [← hp']; unfold stA; rw [if_neg (by omega)]⟩
                  have hr : v' = !v := by rw [← hv']; unfold stW; rw [if_neg (by omega)]
                  subst hu0 hr
                  have q4 : ¬ 0 < (V : Int) := by omega
                  have q5 := HA2.out
                  rw [if_neg hV1] at q5
                  clear hp' hv' e3
                  have O6 := O6
                  go_wp2_with fail
                  refine (H7.out _ O6.out).mono ?_
                  rintro e w7 ⟨rfl, O7, -⟩
                  have O7 := Lib.hid O7
                  clear H7 O6
                  go_wp2_with fail
                  refine (ord_out O7.out).mono ?_
                  rintro e w8 ⟨rfl, rfl⟩
                  go_wp2_with fail
                  refine (HL8.out _ _ O7.out).mono ?_
                  rintro e w8 ⟨rfl, O8⟩
                  have O8 := Lib.hid O8
                  clear O7 HL8
                  go_wp2_with fail
                  refine (HU.out _).mono ?_
                  rintro e w9 ⟨rfl, rfl⟩
                  go_wp2_with fail
                  refine (ord_idle O8.out HYL.out hn2 HPL.out HYI.out).mono ?_
                  rintro e w9 ⟨A9, c9, rfl, O9⟩
                  have O10 := Lib.hid (O9.next (ba (Below.refl _ _) (.cells #[.int .i64 0, .int .i64 0, .slice A9 0 c9] 51)))
                  clear O8 O9
                  go_wp2_with fail
                  go_roundw
                  case rel => exact ⟨i + 1, _, _, si + k, Y, by go_num, rfl, rfl, by omega, by omega, HPL.out, by omega, HYL.out, HYI.out, O10.out⟩
                  case measure => simp [intOf]; omega
              · by_cases hV1 : 0 < V
                · have q3 : ¬ (n : Int) ≤ (t : Int) := by omega
                  have hu0 : p' = t := by rw [← hp']; unfold stA; rw [if_pos (by omega)]; omega
                  have hr : v' = v := by rw [← hv']; unfold stW; rw [if_pos (by omega)]
                  subst hu0 hr
                  have q4 : 0 < (V : Int) := by omega
                  have q5 := HA2.out
                  rw [if_pos hV1] at q5
                  clear hp' hv' e3
                  have O6 := O6
                  go_wp2_with fail
                  refine (H7.out _ O6.out).mono ?_
                  rintro e w7 ⟨rfl, O7, -⟩
                  have O7 := Lib.hid O7
                  clear H7 O6
                  go_wp2_with fail
                  refine (ord_out O7.out).mono ?_
                  rintro e w8 ⟨rfl, rfl⟩
                  go_wp2_with fail
                  refine (HL8.out _ _ O7.out).mono ?_
                  rintro e w8 ⟨rfl, O8⟩
                  have O8 := Lib.hid O8
                  clear O7 HL8
                  go_wp2_with fail
                  refine (HU.out _).mono ?_
                  rintro e w9 ⟨rfl, rfl⟩
                  go_wp2_with fail
                  refine (ord_idle O8.out HYL.out hn2 HPL.out HYI.out).mono ?_
                  rintro e w9 ⟨A9, c9, rfl, O9⟩
                  have O10 := Lib.hid (O9.next (ba (Below.refl _ _) (.cells #[.int .i64 0, .int .i64 0, .slice A9 0 c9] 51)))
                  clear O8 O9
                  go_wp2_with fail
                  go_roundw
                  case rel => exact ⟨i + 1, _, _, si + k, Y, by go_num, rfl, rfl, by omega, by omega, HPL.out, by omega, HYL.out, HYI.out, O10.out⟩
                  case measure => simp [intOf]; omega
                · have q3 : ¬ (n : Int) ≤ (t : Int) := by omega
                  have hu0 : p' = t := by rw [← hp']; unfold stA; rw [if_pos (by omega)]; omega
                  have hr : v' = v := by rw [← hv']; unfold stW; rw [if_pos (by omega)]
                  subst hu0 hr
                  have q4 : ¬ 0 < (V : Int) := by omega
                  have q5 := HA2.out
                  rw [if_neg hV1] at q5
                  clear hp' hv' e3
                  have O6 := O6
                  go_wp2_with fail
                  refine (H7.out _ O6.out).mono ?_
                  rintro e w7 ⟨rfl, O7, -⟩
                  have O7 := Lib.hid O7
                  clear H7 O6
                  go_wp2_with fail
                  refine (ord_out O7.out).mono ?_
                  rintro e w8 ⟨rfl, rfl⟩
                  go_wp2_with fail
                  refine (HL8.out _ _ O7.out).mono ?_
                  rintro e w8 ⟨rfl, O8⟩
                  have O8 := Lib.hid O8
                  clear O7 HL8
                  go_wp2_with fail
                  refine (HU.out _).mono ?_
                  rintro e w9 ⟨rfl, rfl⟩
                  go_wp2_with fail
                  refine (ord_idle O8.out HYL.out hn2 HPL.out HYI.out).mono ?_
                  rintro e w9 ⟨A9, c9, rfl, O9⟩
                  have O10 := Lib.hid (O9.next (ba (Below.refl _ _) (.cells #[.int .i64 0, .int .i64 0, .slice A9 0 c9] 51)))
                  clear O8 O9
                  go_wp2_with fail
                  go_roundw
                  case rel => exact ⟨i + 1, _, _, si + k, Y, by go_num, rfl, rfl, by omega, by omega, HPL.out, by omega, HYL.out, HYI.out, O10.out⟩
                  case measure => simp [intOf]; omega
    · by_cases l1 : i < m
      · have l2 : ¬ i < 60 := fun h => hlt ⟨l1, h⟩
        have l3 : (i : Int) < (m : Int) := by omega
        clear HA HI
        go_wp2_with fail
        refine (ord_broken O2.out).mono ?_
        rintro e w2 ⟨rfl, rfl⟩
        go_wp2_with fail
        refine (HF.out _).mono ?_
        rintro e w3 ⟨rfl, hq⟩
        have hq := b0 (b0 HB0.out O2.out.below) hq
        go_wp2_with fail
        go_ret
        exact ⟨rfl, hq⟩
      · have l3 : ¬ (i : Int) < (m : Int) := by omega
        clear HA HI
        go_wp2_with fail
        refine (ord_broken O2.out).mono ?_
        rintro e w2 ⟨rfl, rfl⟩
        go_wp2_with fail
        refine (HF.out _).mono ?_
        rintro e w3 ⟨rfl, hq⟩
        have hq := b0 (b0 HB0.out O2.out.below) hq
        go_wp2_with fail
        go_ret
        exact ⟨rfl, hq⟩
end Go.Proofs.Ytoblemgeacllkaa

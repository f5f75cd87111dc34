/-
  DrvqNothing's walk; no condition.
-/
import Derived.Test.YtbpgblmhacpjlaaLw
import Derived.Deep.QuietTactic
import Derived.BigQuiet
namespace Go.Proofs.Ytbpgblmhacpjlaa
open Go.RowKit

/-- what stands where the loop stands -/
def NoS (w : World) (n g gq i : Nat) (wr : World) : Prop := ∃ xs q, St (fun _ => False) w (stars [drvP g gq xs q]) wr ∧ NI n xs q ∧ q.since ≤ i
set_option maxRecDepth 100000 in
set_option maxHeartbeats 3200000 in
theorem nothing_all (size : Int) (A : Option Addr) (m c : Nat) (w : World) (hA : IntsAt A m w) :
    Calls Try.prog 6 #[.int .i64 size, .slice A m c] w fun e w' => e = .returned (.bool true) ∧ Below w.heap.size w w' := by
  obtain ⟨X, hX0, eX⟩ := low_and size 3 7 (by omega) (by decide)
  have hX : X < 8 := hX0
  clear hX0
  have HL := Lib.hid (laid_small (1 + X) (by omega) (by omega))
  have HF := Lib.hid fixed_any
  have HA := Lib.hid hA
  clear hA
  go_enter Try.func6, Try.ntmps6
  go_wp2_with fail
  refine (HL.out _ (by omega) _).mono ?_
  rintro e w1 ⟨g, gq, gx, xs, q, rfl, S1, hN, -, -, hs⟩
  have S1 := Lib.hid S1
  have hN := Lib.hid hN
  clear HL
  go_wp2_with fail
  go_loopw [10] (fun iv wr => ∃ i : Nat, i ≤ 20 ∧ iv = .int .i64 i ∧ NoS w (1 + X) g gq i wr) (fun iv _ => 20 - (intOf iv).toNat)
  case atStart => exact ⟨0, Nat.zero_le _, rfl, xs, q, S1.out, hN.out, by omega⟩
  case round =>
    obtain ⟨i, hi, rfl, xs, q, S2, hN, hsi⟩ := hrel
    clear S1 hs
    by_cases hlt : i < m ∧ i < 20
    · obtain ⟨b, off, z, rfl, hbl, hz⟩ := HA.out.cell S2.law i hlt.1
      obtain ⟨Y, hY0, eY⟩ := low_and z 6 63 (by omega) (by decide)
      have hY : Y < 64 := hY0
      obtain ⟨M, hM⟩ : ∃ M, (1 : Int) + (Y : Int) = M := ⟨_, rfl⟩
      have hM1 : 0 < M := by omega
      have hM2 : M ≤ 64 := by omega
      have eM : IntKind.i64.wrap (1 + (Y : Int)) = M := by rw [IntWalk.i64_in _ (by omega)]; exact hM
      obtain ⟨B, hB⟩ : ∃ B, bits .and .i64 z 64 = B := ⟨_, rfl⟩
      have l1 : (i : Int) < (m : Int) := by omega
      have l2 : (i : Int) < 20 := by omega
      have l3 := Lib.hid hlt.2
      have S2 := Lib.hid S2
      have hN := Lib.hid hN
      clear hY0 hlt
      obtain ⟨v, hv⟩ : ∃ v, (B != 0) = v := ⟨_, rfl⟩
      go_wp2_with fail
      go_region
      obtain ⟨r, hr⟩ : ∃ r, postC xs q [⟨600, M, v⟩] = r := ⟨_, rfl⟩
      have hP := hN.out.post (by omega) (m := M) (v := v) hM1 hM2
      rw [hr] at hP
      have P3 : St (fun _ => False) w (stars [rowA 77 3 (.slice (some ⟨wr.heap.size, 0, none⟩) 1 1) 1 (iptCells [⟨600, M, v⟩]), drvP g gq xs q]) (wr.alloc (.cells #[.int .i64 600, .int .i64 M, .bool v] 77)).drew := (S2.out.pushRow 77 3 1 (iptCells [⟨600, M, v⟩]) rfl (by decide) (by decide)).drew
      have HP3 : PsAt (some ⟨wr.heap.size, 0, none⟩) [⟨600, M, v⟩] (wr.alloc (.cells #[.int .i64 600, .int .i64 M, .bool v] 77)).drew := PsAt.of_own (cap := 1) (P3.row 0 (by simp) rfl)
      have H3 := Lib.hid (P3.post 1 (by simp) rfl hN.out.ok (by omega) (cap := 1) HP3 (off_row (m := 0) (by simp) rfl (own_addr (P3.row 0 (by simp) rfl))) (by simp) (fun j hj => by have hj : j < 1 := hj; obtain rfl : j = 0 := (by omega); show M < _; omega) r hr)
      have hP := Lib.hid hP
      clear S2 hN P3 HP3 hr
      go_wp2_with fail
      refine H3.out.mono ?_
      rintro e w4 ⟨rfl, S4⟩
      have S4 : St (fun _ => False) w (stars [drvP g gq r.2.2.1 r.2.2.2]) w4 := St.pop S4
      have H5 := Lib.hid (S4.reap 0 (by simp) rfl hP.out.1.ok _ hP.out.1.reap)
      clear H3 S4
      go_wp2_with fail
      refine H5.out.mono ?_
      rintro e w5 ⟨rfl, S5⟩
      have S5 : St (fun _ => False) w (stars [drvP g gq r.2.2.1 r.2.2.2]) w5 := S5
      have H6 := S5.back 0 (by simp) rfl
      rw [hP.out.1.ba, hP.out.1.bw] at H6
      have S5 := Lib.hid S5
      have H6 := Lib.hid H6
      clear H5
      go_wp2_with fail
      refine H6.out.mono ?_
      rintro e w6 ⟨rfl, hb⟩
      have S6 := Lib.hid (S5.out.below hb)
      clear H6 hb S5
      go_wp2_with fail
      go_roundw
      case rel => exact ⟨i + 1, l3.out, by go_num, _, _, S6.out, hP.out.1, by have := hP.out.2; omega⟩
      case measure => have := l3.out; simp [intOf]; omega
    · have S2 := Lib.hid S2
      have hN := Lib.hid hN
      clear HA
      by_cases l1 : (i : Int) < (m : Int)
      · have l2 : ¬ (i : Int) < 20 := by omega
        clear hlt
        have H7 := Lib.hid (S2.out.clone 0 (by simp) rfl)
        go_wp2_with fail
        refine H7.out.mono ?_
        rintro e w7 ⟨g2, F2, rfl, hM, hF, hb⟩
        have S7 : St (fun _ => False) w (stars [memA g2 xs, drvP g gq xs q]) w7 := S2.out.add hb hM hF
        have H8 := Lib.hid (S7.cloneQ 1 (by simp) rfl g2)
        have S7 := Lib.hid S7
        clear H7 hM hF hb S2
        go_wp2_with fail
        refine H8.out.mono ?_
        rintro e w8 ⟨k, F3, rfl, hD, hF, hb⟩
        have S8 : St (fun _ => False) w (stars [drvA k g2 q, memA g2 xs, drvP g gq xs q]) w8 := S7.out.add hb hD hF
        have H9 := Lib.hid (dfree_v hD)
        have H10 := Lib.hid (S8.free 2 (by simp) rfl)
        obtain ⟨F4, hA, hback⟩ := S8.at 1 (by simp)
        have H11 := Lib.hid (drvqnew_v hA hN.out.len)
        have hback := Lib.hid hback
        clear H8 S7 hA hD hF hb S8
        go_wp2_with fail
        refine H9.out.mono ?_
        rintro e w9 ⟨rfl, rfl⟩
        go_wp2_with fail
        refine H10.out.mono ?_
        rintro e w10 ⟨rfl, rfl⟩
        go_wp2_with fail
        refine H11.out.mono ?_
        rintro e w11 ⟨rfl, B, hs⟩
        have S11 := Lib.hid (hback.out _ _ hs)
        clear H9 H10 H11 hback hs
        go_wp2_with fail
        refine (HF.out _).mono ?_
        rintro e w12 ⟨rfl, hb⟩
        have HE := Lib.hid (S11.out.below hb).law
        clear S11 hb HF
        go_wp2_with fail
        go_ret
        exact ⟨rfl, HE.out⟩
      · clear hlt
        have H7 := Lib.hid (S2.out.clone 0 (by simp) rfl)
        go_wp2_with fail
        refine H7.out.mono ?_
        rintro e w7 ⟨g2, F2, rfl, hM, hF, hb⟩
        have S7 : St (fun _ => False) w (stars [memA g2 xs, drvP g gq xs q]) w7 := S2.out.add hb hM hF
        have H8 := Lib.hid (S7.cloneQ 1 (by simp) rfl g2)
        have S7 := Lib.hid S7
        clear H7 hM hF hb S2
        go_wp2_with fail
        refine H8.out.mono ?_
        rintro e w8 ⟨k, F3, rfl, hD, hF, hb⟩
        have S8 : St (fun _ => False) w (stars [drvA k g2 q, memA g2 xs, drvP g gq xs q]) w8 := S7.out.add hb hD hF
        have H9 := Lib.hid (dfree_v hD)
        have H10 := Lib.hid (S8.free 2 (by simp) rfl)
        obtain ⟨F4, hA, hback⟩ := S8.at 1 (by simp)
        have H11 := Lib.hid (drvqnew_v hA hN.out.len)
        have hback := Lib.hid hback
        clear H8 S7 hA hD hF hb S8
        go_wp2_with fail
        refine H9.out.mono ?_
        rintro e w9 ⟨rfl, rfl⟩
        go_wp2_with fail
        refine H10.out.mono ?_
        rintro e w10 ⟨rfl, rfl⟩
        go_wp2_with fail
        refine H11.out.mono ?_
        rintro e w11 ⟨rfl, B, hs⟩
        have S11 := Lib.hid (hback.out _ _ hs)
        clear H9 H10 H11 hback hs
        go_wp2_with fail
        refine (HF.out _).mono ?_
        rintro e w12 ⟨rfl, hb⟩
        have HE := Lib.hid (S11.out.below hb).law
        clear S11 hb HF
        go_wp2_with fail
        go_ret
        exact ⟨rfl, HE.out⟩
end Go.Proofs.Ytbpgblmhacpjlaa

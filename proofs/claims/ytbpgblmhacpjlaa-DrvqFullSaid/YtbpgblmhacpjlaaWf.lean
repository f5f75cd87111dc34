/-
  DrvqFull's walk; no condition.
-/
import Derived.Test.YtbpgblmhacpjlaaLw
import Derived.Deep.QuietTactic
import Derived.BigQuiet
namespace Go.Proofs.Ytbpgblmhacpjlaa
open Go.RowKit

theorem own_none {w : World} {k : Nat} {e : TypeId} {size : Nat} (h : Blk w k e #[]) : w.ownsRow 0 e size (.slice (some ⟨k, 0, none⟩) 0 0) 0 [] :=
  ⟨by simp, .inr ⟨k, 0, #[], rfl, Nat.zero_le _, h, Nat.le_refl _, by unfold maxLen; omega, by simp, by simp⟩⟩
theorem St.pushEmpty {F0 : Nat → Prop} {w0 w : World} {l : List As} (h : St F0 w0 (stars l) w) (e : TypeId) (size : Nat) : St F0 w0 (stars (rowA e size (.slice (some ⟨w.heap.size, 0, none⟩) 0 0) 0 [] :: l)) (w.alloc (.cells #[] e)) :=
  h.add (B := rowA e size (.slice (some ⟨w.heap.size, 0, none⟩) 0 0) 0 []) (F := fun k => k = w.heap.size) (ba (Below.refl _ _) _) ⟨own_none (Blk.new w e #[]), fun k => by simp [Value.ownBlock, eq_comm]⟩ (fun k e => by omega)
theorem ones6_succ (j : Nat) : iptCells (ones6 j) ++ iptCells [⟨600 + (j : Int), 1, false⟩] = iptCells (ones6 (j + 1)) := by
  rw [← iptCells_append]
  unfold ones6
  rw [List.range_succ, List.map_append]
  rfl
set_option maxRecDepth 100000 in
set_option maxHeartbeats 3200000 in
theorem full_all (size : Int) (A : Option Addr) (m c : Nat) (w : World) (hA : IntsAt A m w) :
    Calls Try.prog 5 #[.int .i64 size, .slice A m c] w fun e w' => e = .returned (.bool true) ∧ Below w.heap.size w w' := by
  obtain ⟨X, hX0, eX⟩ := low_and size 3 7 (by omega) (by decide)
  have hX : X < 8 := hX0
  clear hX0
  obtain ⟨i0, hi, hz0, hz1, hz2⟩ := info_parts Try.infoPart
  have HI := Lib.hid hi
  have HZ0 := Lib.hid hz0
  have HZ1 := Lib.hid hz1
  have HZ2 := Lib.hid hz2
  clear hi hz0 hz1 hz2
  have HL := Lib.hid (laid_small (1 + X) (by omega) (by omega))
  have HF := Lib.hid fixed_any
  have HA := Lib.hid hA
  clear hA
  go_enter Try.func5, Try.ntmps5
  go_wp2_with fail
  refine (HL.out _ (by omega) _).mono ?_
  rintro e w1 ⟨g, gq, gx, xs, q, rfl, S1, -, hF, hf, hs⟩
  have S1 := Lib.hid S1
  have hF := Lib.hid hF
  clear HL
  go_wp2_with fail
  go_loopw [10, 11, 12] (fun fv dv iv wr => ∃ (i ids F : Nat) (xs : List UInt8) (q : Vs), i ≤ 20 ∧ fv = .int .i64 (F : Int) ∧ dv = .int .i64 (ids : Int) ∧ iv = .int .i64 (i : Int) ∧ St (fun _ => False) w (stars [drvP g gq xs q]) wr ∧ FI (1 + X) ids xs q ∧ q.free = F ∧ q.since ≤ 4 * i) (fun fv dv iv _ => 20 - (intOf iv).toNat)
  case atStart => exact ⟨0, 0, 1 + X, xs, q, Nat.zero_le _, by go_num, rfl, rfl, S1.out, hF.out, hf, by omega⟩
  case round =>
    obtain ⟨i, ids, F, xs, q, hi, rfl, rfl, rfl, S2, hF, hf, hsi⟩ := hrel
    clear S1 hs
    have hid := hF.le
    have hfl := free_le hF.ok
    rw [hF.size, hf] at hfl
    by_cases hlt : i < m ∧ i < 20
    · obtain ⟨b, off, z, rfl, hbl, hz⟩ := HA.out.cell S2.law i hlt.1
      obtain ⟨Y, hY0, eY⟩ := low_and z 2 3 (by omega) (by decide)
      have hY : Y < 4 := hY0
      obtain ⟨k, hk⟩ : ∃ k : Nat, 1 + Y = k := ⟨_, rfl⟩
      have ek : IntKind.i64.wrap (1 + (Y : Int)) = (k : Int) := by rw [IntWalk.i64_in _ (by omega)]; omega
      have hk1 : 1 ≤ k := by omega
      have hk4 : k ≤ 4 := by omega
      have l1 : (i : Int) < (m : Int) := by omega
      have l2 : (i : Int) < 20 := by omega
      have l3 := Lib.hid hlt.2
      have S3 := Lib.hid (S2.pushEmpty 77 3)
      have hF := Lib.hid hF
      clear hY0 hlt S2 hk hY
      go_wp2_with fail
      go_loopw [14, 15] (fun pv jv wq => ∃ (j : Nat) (A : Option Addr) (cap : Nat), j ≤ k ∧ jv = .int .i64 (j : Int) ∧ pv = .slice A j cap ∧ St (fun _ => False) w (stars [rowA 77 3 (.slice A j cap) j (iptCells (ones6 j)), drvP g gq xs q]) wq) (fun pv jv _ => k - (intOf jv).toNat)
      case atStart => exact ⟨0, _, _, Nat.zero_le _, rfl, rfl, S3.out⟩
      case round =>
        obtain ⟨j, A, cap, hj, rfl, rfl, S4⟩ := hrel
        clear S3 hz
        by_cases hjk : j < k
        · have q1 : (j : Int) < (k : Int) := by omega
          have HJ := Lib.hid hjk
          have P3 := Lib.hid (S4.pushRow 77 3 1 (iptCells [⟨600 + (j : Int), 1, false⟩]) rfl (by decide) (by decide))
          have r0 := Lib.hid (P3.out.row 0 (by simp) rfl)
          have r1 := Lib.hid (P3.out.row 1 (by simp) rfl)
          clear S4
          go_wp2_with (at_builtin; refine wpList_append_lies _ rfl (.tmp 59) (.tmp 63) 37 rfl 0 77 i0 _ 3 24 Try.underlying37 HI.out HZ0.out HZ1.out HZ2.out rfl (by decide) (.slice A j cap) j (iptCells (ones6 j)) rfl r1.out ⟨wr.heap.size, 0, none⟩ 1 1 (iptCells [⟨600 + (j : Int), 1, false⟩]) rfl rfl (r0.out.cells (g := wr.heap.size) rfl) (ipt_one _) (by decide) (by unfold maxLen; omega) (by omega) (Nat.zero_le _) _ rfl ?_; intro g3 cap3 w3 hown hgrow hat hlt3)
          have S5 := St.pop (P3.out.grow 1 (by simp) rfl hown hgrow (fun x hk => by
            have e : g3 = x := by simpa [Value.ownBlock] using hk
            subst e
            rcases hat with e | e
            · exact .inl e
            · right; rw [e]; exact Nat.le_refl _))
          rw [ones6_succ] at S5
          have S5 := Lib.hid S5
          clear P3 r0 r1 hown hgrow hat hlt3
          go_roundw
          case rel => exact ⟨j + 1, _, _, by have := HJ.out; omega, by go_num, rfl, S5.out⟩
          case measure => have := HJ.out; simp [intOf]; omega
        · have q1 : ¬ (j : Int) < (k : Int) := by omega
          obtain rfl : j = k := by omega
          have hl6 := ones6_length j
          have r0 := S4.row 0 (by simp) rfl
          have HP : PsAt A (ones6 j) wr := PsAt.of_own (cap := cap) (by rw [hl6]; exact r0)
          have hpost := hF.out.post hk1 hk4
          have hsi2 : q.since ≤ 1099511627776 := by omega
          by_cases hk : j ≤ F
          · have q2 : (j : Int) ≤ (F : Int) := by omega
            obtain ⟨r, hr⟩ : ∃ r, postC xs q (ones6 j) = r := ⟨_, rfl⟩
            rw [hr, hf] at hpost
            obtain ⟨e1, e2, hF2, hf2, hs2⟩ := hpost.1 hk
            have H5 := S4.post 1 (by simp) rfl hF.out.ok hsi2 (cap := cap) HP (off_row (m := 0) (by simp) rfl (own_addr r0)) (by rw [hl6]; omega) (fun j hj => by simp [ones6]) r hr
            rw [hl6, e1, e2] at H5
            obtain ⟨F2, hF3⟩ : ∃ F2, r.2.2.2.free = F2 := ⟨_, rfl⟩
            have eF : (F2 : Int) = (F : Int) - (j : Int) := by omega
            have H5 := Lib.hid H5
            have hF2 := Lib.hid hF2
            have hF3 := Lib.hid hF3
            have hs2 := Lib.hid hs2
            clear S4 r0 HP hpost e1 e2 hf2 hr hl6 hF hf
            go_wp2_with fail
            refine H5.out.mono ?_
            rintro e w5 ⟨rfl, S5⟩
            have S5 : St (fun _ => False) w (stars [drvP g gq r.2.2.1 r.2.2.2]) w5 := St.pop S5
            have H6 := S5.free 0 (by simp) rfl
            rw [hF3.out] at H6
            have H7 := S5.held 0 (by simp) rfl hF2.out.ok
            unfold HeldP at H7
            rw [hF2.out.held] at H7
            have S5 := Lib.hid S5
            have H6 := Lib.hid H6
            have H7 := Lib.hid H7
            clear H5
            go_wp2_with fail
            refine H6.out.mono ?_
            rintro e w6 ⟨rfl, rfl⟩
            go_wp2_with fail
            refine H7.out.mono ?_
            rintro e w7 ⟨A7, c7, rfl, -, hb⟩
            have S7 := Lib.hid (S5.out.below hb)
            clear H6 H7 hb S5
            go_wp2_with fail
            go_roundw
            case rel => exact ⟨i + 1, ids + 1, F2, _, _, l3.out, by go_num, by go_num, by go_num, S7.out, hF2.out, hF3.out, by have := hs2.out; omega⟩
            case measure => have := l3.out; simp [intOf]; omega
          · have q2 : ¬ (j : Int) ≤ (F : Int) := by omega
            have hr := hpost.2 (by rw [hf]; exact hk)
            have H5 := S4.post 1 (by simp) rfl hF.out.ok hsi2 (cap := cap) HP (off_row (m := 0) (by simp) rfl (own_addr r0)) (by rw [hl6]; omega) (fun j hj => by simp [ones6]) _ hr
            rw [hl6] at H5
            have H5 := Lib.hid H5
            have hf := Lib.hid hf
            clear S4 r0 HP hpost hr hl6
            go_wp2_with fail
            refine H5.out.mono ?_
            rintro e w5 ⟨rfl, S5⟩
            have S5 : St (fun _ => False) w (stars [drvP g gq xs q]) w5 := St.pop S5
            have H6 := S5.free 0 (by simp) rfl
            rw [hf.out] at H6
            have H7 := S5.held 0 (by simp) rfl hF.out.ok
            unfold HeldP at H7
            rw [hF.out.held] at H7
            have S5 := Lib.hid S5
            have H6 := Lib.hid H6
            have H7 := Lib.hid H7
            clear H5
            go_wp2_with fail
            refine H6.out.mono ?_
            rintro e w6 ⟨rfl, rfl⟩
            go_wp2_with fail
            refine H7.out.mono ?_
            rintro e w7 ⟨A7, c7, rfl, -, hb⟩
            have S7 := Lib.hid (S5.out.below hb)
            clear H6 H7 hb S5
            go_wp2_with fail
            go_roundw
            case rel => exact ⟨i + 1, ids, F, _, _, l3.out, rfl, rfl, by go_num, S7.out, hF.out, hf.out, by omega⟩
            case measure => have := l3.out; simp [intOf]; omega
    · have S2 := Lib.hid S2
      clear HA hf
      by_cases l1 : (i : Int) < (m : Int)
      · have l2 : ¬ (i : Int) < 20 := by omega
        clear hlt
        go_wp2_with fail
        refine (HF.out _).mono ?_
        rintro e w12 ⟨rfl, hb⟩
        have HE := Lib.hid (S2.out.below hb).law
        clear S2 hb HF
        go_wp2_with fail
        go_ret
        exact ⟨rfl, HE.out⟩
      · clear hlt
        go_wp2_with fail
        refine (HF.out _).mono ?_
        rintro e w12 ⟨rfl, hb⟩
        have HE := Lib.hid (S2.out.below hb).law
        clear S2 hb HF
        go_wp2_with fail
        go_ret
        exact ⟨rfl, HE.out⟩
end Go.Proofs.Ytbpgblmhacpjlaa

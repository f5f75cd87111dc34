/-
  What addr.Print and the document's Print answer: for every string.
-/
import Derived.Test.YthknggabioadhaaBytes
import Derived.Deep.RegionLaw
import Derived.BigRegion
namespace Go.Proofs.Ythknggabioadhaa
open Go.RowKit

theorem digs_is (k : Nat) (h : k < 16) : ∀ g : k < (⟨#[48, 49, 50, 51, 52, 53, 54, 55, 56, 57, 97, 98, 99, 100, 101, 102]⟩ : ByteArray).size, ((⟨#[48, 49, 50, 51, 52, 53, 54, 55, 56, 57, 97, 98, 99, 100, 101, 102]⟩ : ByteArray)[k]'g) = hexD k := by
  have e : ∀ j : Fin 16, ((⟨#[48, 49, 50, 51, 52, 53, 54, 55, 56, 57, 97, 98, 99, 100, 101, 102]⟩ : ByteArray)[j.val]'j.isLt) = hexD j.val := by decide
  exact fun _ => e ⟨k, h⟩
theorem low4 (c : Nat) (h : c < 256) : bits .and .u8 (c : Int) 15 = ((c % 16 : Nat) : Int) := by
  have e := u8_and_nat c 15 h (by omega)
  rw [show c &&& 15 = c % 16 from Nat.and_two_pow_sub_one_eq_mod c 4] at e
  exact e
theorem txt_next (a : ByteArray) (k : Nat) (h : k < a.size) : txt (bt a) (k + 1) = txt (bt a) k ++ (if 0 < k then [58] else []) ++ [hexD (a[k].toNat / 16), hexD (a[k].toNat % 16)] := by
  rw [txt, bt_in a k h]
set_option maxRecDepth 100000 in
set_option maxHeartbeats 1000000 in
theorem print_six (a : ByteArray) (w : World) (h6 : a.size = 6) :
    Calls Try.prog 8 #[.string a] w fun e w' => e = .returned (.tuple #[.string (printS a), .int .i64 (printE a)]) ∧ Below w.heap.size w w' := by
  rw [printS, printE, if_pos h6, if_pos h6]
  obtain ⟨i0, hi, hz0, hz1, hz2⟩ := info_parts Try.info5
  have HI := Lib.hid hi
  have HZ0 := Lib.hid hz0
  have HZ1 := Lib.hid hz1
  have HZ2 := Lib.hid hz2
  clear hi hz0 hz1 hz2
  have hz : (a.size : Int) = 6 := by omega
  go_enter Try.func8, Try.ntmps8
  go_wp2_with (at_make; refine wpList_make_own _ rfl (.const (.int .i64 0)) (.const (.int .i64 17)) 33 rfl w.heap.size 5 i0 (.int .u8 0) 1 Try.underlying33 HI.out HZ0.out HZ1.out .i64 .i64 17 17 rfl rfl rfl (by rw [HZ2.out]; omega) (by unfold maxLen; omega) (Nat.le_refl _) ?_; intro w1 hrow hgrow)
  have hst := Grow.empty rfl hrow hgrow
  clear hrow hgrow
  go_loopw [4, 12] (fun t i wr => ∃ k g n cap : Nat, k ≤ 6 ∧ n ≤ 17 ∧ i = .int .i64 k ∧ t = .slice (some ⟨g, 0, none⟩) n cap ∧ Grow w.heap.size g n cap (txt (bt a) k) w wr) (fun _ i _ => 6 - (intOf i).toNat)
  case atStart => exact ⟨0, w.heap.size, 0, 17, by omega, by omega, rfl, rfl, hst⟩
  case round =>
    obtain ⟨k, g, n, cap, hk, hn, rfl, rfl, hfill⟩ := hrel
    clear hst
    by_cases hlt : k < 6
    · have hl : k < a.size := by omega
      have hc : a[k].toNat < 256 := UInt8.toNat_lt _
      have hln := Lib.hid (txt_length (bt a) k)
      have hnx := Lib.hid (txt_next a k hl)
      obtain ⟨X, hX, eX, eX2⟩ : ∃ X : Nat, X < 16 ∧ (a[k].toNat : Int) / 16 = (X : Int) ∧ X = a[k].toNat / 16 := ⟨a[k].toNat / 16, by omega, by omega, rfl⟩
      obtain ⟨Y, hY, eY, eY2⟩ : ∃ Y : Nat, Y < 16 ∧ bits .and .u8 (a[k].toNat : Int) 15 = (Y : Int) ∧ Y = a[k].toNat % 16 := ⟨a[k].toNat % 16, by omega, low4 _ hc, rfl⟩
      rw [← eX2, ← eY2] at hnx
      clear eX2 eY2
      have hXi : (X : Int) < 16 := by omega
      have hYi : (Y : Int) < 16 := by omega
      have dX := digs_is X hX
      have dY := digs_is Y hY
      have hn3 : n = 3 * k - 1 := by rw [← hfill.1, hln.out]
      by_cases h0 : k = 0
      · subst h0
        obtain rfl : n = 0 := by omega
        clear hn3
        go_wp2_with fail
        have HR := Lib.hid (hfill.ready [hexD X, hexD Y] _ (.inr rfl))
        have hb := hfill.base
        have hl2 := Lib.hid hfill.1
        clear hfill
        go_region_law (refine step_append_lies ((wr.alloc (.cells #[byteV (hexD X), byteV (hexD Y)] 5)).drew) rfl (.tmp 20) (.tmp 31) 33 rfl w.heap.size 5 i0 _ 1 1 Try.underlying33 HI.out HZ0.out HZ1.out HZ2.out rfl (by decide) (.slice (some ⟨g, 0, none⟩) 0 cap) 0 ((txt (bt a) 0).map byteV) rfl HR.out.1 ⟨wr.heap.size, 0, none⟩ 2 2 ([hexD X, hexD Y].map byteV) rfl rfl HR.out.2.1 (byteV_one _) (by decide) (by unfold maxLen; omega) (by omega) HR.out.2.2.2 _ rfl ?_; intro gl cap' w2 hown hgrow hat hlt'; have HN := Lib.hid (Grow.more (m := 2) hl2.out rfl HR.out.2.2.1 HR.out.2.2.2 hb hown hgrow); clear hown hgrow hat hlt')
        all_goals
          go_wp2
          go_roundw
          case rel => exact ⟨1, gl, 2, cap', by omega, by omega, rfl, rfl, by rw [hnx.out]; exact HN.out⟩
          case measure => simp [intOf]
      · have hn2 : n ≤ 14 := by omega
        have HN3 := Lib.hid hn3
        clear hn3
        have HR0 := Lib.hid (hfill.ready [58] _ (.inl rfl))
        have hb0 := hfill.base
        have hl0 := Lib.hid hfill.1
        clear hfill
        have hk0 : 0 < k := by omega
        go_wp2_with (at_builtin; refine wpList_append_lies (wr.alloc (.cells #[byteV 58] 5)) rfl (.tmp 17) (.tmp 18) 33 rfl w.heap.size 5 i0 _ 1 1 Try.underlying33 HI.out HZ0.out HZ1.out HZ2.out rfl (by decide) (.slice (some ⟨g, 0, none⟩) n cap) n ((txt (bt a) k).map byteV) rfl HR0.out.1 ⟨wr.heap.size, 0, none⟩ 1 1 ([(58 : UInt8)].map byteV) rfl rfl HR0.out.2.1 (byteV_one _) (by decide) (by unfold maxLen; omega) (by omega) HR0.out.2.2.2 _ rfl ?_; intro gm capm wm hown hgrow hat hlt'; have HM := Lib.hid (Grow.more (m := 1) hl0.out rfl HR0.out.2.2.1 HR0.out.2.2.2 hb0 hown hgrow); clear hown hgrow hat hlt')
        have HR := Lib.hid (HM.out.ready [hexD X, hexD Y] _ (.inr rfl))
        have hb := HM.out.base
        have hl2 := Lib.hid HM.out.1
        clear HM HR0 hl0
        go_region_law (refine step_append_lies ((wm.alloc (.cells #[byteV (hexD X), byteV (hexD Y)] 5)).drew) rfl (.tmp 20) (.tmp 31) 33 rfl w.heap.size 5 i0 _ 1 1 Try.underlying33 HI.out HZ0.out HZ1.out HZ2.out rfl (by decide) (.slice (some ⟨gm, 0, none⟩) (n + 1) capm) (n + 1) (List.map byteV (txt (bt a) k ++ [(58 : UInt8)])) rfl HR.out.1 ⟨wm.heap.size, 0, none⟩ 2 2 ([hexD X, hexD Y].map byteV) rfl rfl HR.out.2.1 (byteV_one _) (by decide) (by unfold maxLen; omega) (by omega) HR.out.2.2.2 _ rfl ?_; intro gl cap' w2 hown hgrow hat hlt'; have HN := Lib.hid (Grow.more (m := 2) hl2.out rfl HR.out.2.2.1 HR.out.2.2.2 hb hown hgrow); clear hown hgrow hat hlt')
        all_goals
          go_wp2
          go_roundw
          case rel => exact ⟨k + 1, gl, n + 1 + 2, cap', by omega, by omega, by go_num, rfl, by rw [hnx.out, if_pos hk0]; exact HN.out⟩
          case measure => simp [intOf]; omega
    · obtain rfl : k = 6 := by omega
      have hconv := hfill.text
      go_wp2
      go_ret2
      exact ⟨rfl, hfill.below⟩
theorem print_not (a : ByteArray) (w : World) (h6 : a.size ≠ 6) :
    Calls Try.prog 8 #[.string a] w fun e w' => e = .returned (.tuple #[.string (printS a), .int .i64 (printE a)]) ∧ Below w.heap.size w w' := by
  rw [printS, printE, if_neg h6, if_neg h6]
  have hz : ((a.size : Int) == 6) = false := by rw [beq_eq_false_iff_ne]; omega
  go_enter Try.func8, Try.ntmps8
  go_wp2
  go_ret2
  exact ⟨rfl, Below.refl _ _⟩
theorem print_any (a : ByteArray) (w : World) :
    Calls Try.prog 8 #[.string a] w fun e w' => e = .returned (.tuple #[.string (printS a), .int .i64 (printE a)]) ∧ Below w.heap.size w w' := by
  by_cases h6 : a.size = 6
  · exact print_six a w h6
  · exact print_not a w h6

end Go.Proofs.Ythknggabioadhaa

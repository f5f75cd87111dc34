/-
  What the document's Print answers: for every string.
-/
import Derived.Test.YthknggabioadhaaPrint
namespace Go.Proofs.Ythknggabioadhaa
open Go.RowKit

theorem cat_arr (xs ys : List UInt8) : (⟨xs.toArray⟩ : ByteArray) ++ ⟨ys.toArray⟩ = ⟨(xs ++ ys).toArray⟩ := by
  apply ByteArray.ext
  simp
theorem txt_size (f : Nat → UInt8) (k : Nat) : (⟨(txt f k).toArray⟩ : ByteArray).size = 3 * k - 1 := by
  show (txt f k).toArray.size = _
  rw [List.size_toArray, txt_length]
set_option maxHeartbeats 1000000 in
theorem printr_any (a : ByteArray) (w : World) :
    Calls Try.prog 9 #[.string a] w fun e w' => e = .returned (.tuple #[.string (printS a), .int .i64 (printE a)]) ∧ Below w.heap.size w w' := by
  by_cases h6 : a.size = 6
  · rw [printS, printE, if_pos h6, if_pos h6]
    have hz : (a.size : Int) = 6 := by omega
    go_enter Try.func9, Try.ntmps9
    go_wp2
    go_loopw [4, 5] (fun t i wr => ∃ (k : Nat) (T : ByteArray), k ≤ 6 ∧ T.size ≤ 17 ∧ i = .int .i64 k ∧ t = .string T ∧ T = ⟨(txt (bt a) k).toArray⟩ ∧ Below w.heap.size w wr) (fun _ i _ => 6 - (intOf i).toNat)
    case atStart => exact ⟨0, ⟨#[]⟩, by omega, by decide, rfl, rfl, rfl, Below.refl _ _⟩
    case round =>
      obtain ⟨k, T, hk, hT, rfl, rfl, eT, hB⟩ := hrel
      by_cases hlt : k < 6
      · have hl : k < a.size := by omega
        have hc : a[k].toNat < 256 := UInt8.toNat_lt _
        have hn := Lib.hid (txt_next a k hl)
        have hzT : T.size = 3 * k - 1 := by rw [eT]; show (txt (bt a) k).toArray.size = _; rw [List.size_toArray, txt_length]
        obtain ⟨X, hX, eX, eX1, eX2⟩ : ∃ X : Nat, X < 16 ∧ (a[k].toNat : Int) / 16 = (X : Int) ∧ (a[k].toNat : Int).tdiv 16 = (X : Int) ∧ X = a[k].toNat / 16 := ⟨a[k].toNat / 16, by omega, by omega, by rw [Int.tdiv_eq_ediv_of_nonneg (by omega)]; omega, rfl⟩
        obtain ⟨Y, hY, eY, eY1, eY2⟩ : ∃ Y : Nat, Y < 16 ∧ (a[k].toNat : Int) % 16 = (Y : Int) ∧ (a[k].toNat : Int).tmod 16 = (Y : Int) ∧ Y = a[k].toNat % 16 := ⟨a[k].toNat % 16, by omega, by omega, by rw [Int.tmod_eq_emod_of_nonneg (by omega)]; omega, rfl⟩
        rw [← eX2, ← eY2] at hn
        clear eX2 eY2
        have ET := Lib.hid eT
        clear eT
        have G1 := Lib.hid (fun w => (digitr_any X w hX).mono fun e w' (h : _ ∧ w = w') => (⟨h.1, h.2.symm⟩ : _ ∧ w' = w))
        have G2 := Lib.hid (fun w => (digitr_any Y w hY).mono fun e w' (h : _ ∧ w = w') => (⟨h.1, h.2.symm⟩ : _ ∧ w' = w))
        obtain ⟨D1, hD1, eD1⟩ : ∃ D : ByteArray, D.size = 1 ∧ digS X = D := ⟨_, rfl, rfl⟩
        obtain ⟨D2, hD2, eD2⟩ : ∃ D : ByteArray, D.size = 1 ∧ digS Y = D := ⟨_, rfl, rfl⟩
        rw [eD1] at G1
        rw [eD2] at G2
        have ED1 := Lib.hid eD1
        have ED2 := Lib.hid eD2
        clear eD1 eD2
        have z1 : D1.size ≤ 1 := by omega
        have z2 : D2.size ≤ 1 := by omega
        clear hD1 hD2 hzT
        have eW : IntKind.i64.wrap (a[k].toNat : Int) = (a[k].toNat : Int) := IntWalk.i64_in _ (by omega)
        have eW1 : IntKind.i64.wrap (X : Int) = (X : Int) := IntWalk.i64_in _ (by omega)
        have eW2 : IntKind.i64.wrap (Y : Int) = (Y : Int) := IntWalk.i64_in _ (by omega)
        by_cases h0 : k = 0
        · subst h0
          go_wp2_with fail
          go_quiet (first | ((go_at_call 19; exact Calls.quiet_of_same (G1.out _))) | ((go_at_call 19; exact Calls.quiet_of_same (G2.out _))))
          have hE : T ++ (D1 ++ D2) = ⟨(txt (bt a) (0 + 1)).toArray⟩ := by
            rw [hn.out, ET.out, ← ED1.out, ← ED2.out]; rfl
          have HE := Lib.hid hE
          clear hE
          go_wp2
          go_roundw
          case rel => exact ⟨1, T ++ (D1 ++ D2), by omega, by rw [HE.out, txt_size]; decide, rfl, rfl, HE.out, hB.trans ⟨rfl, rfl, rfl, Nat.le_refl _, fun _ _ => rfl⟩⟩
          case measure => simp [intOf]
        · have hk0 : 0 < k := by omega
          obtain ⟨U, hU, eU⟩ : ∃ U : ByteArray, U.size ≤ 18 ∧ T ++ ⟨#[58]⟩ = U := ⟨_, by rw [ByteArray.size_append]; show T.size + 1 ≤ 18; omega, rfl⟩
          go_wp2_with fail
          try simp only [eU]
          go_quiet (first | ((go_at_call 19; exact Calls.quiet_of_same (G1.out _))) | ((go_at_call 19; exact Calls.quiet_of_same (G2.out _))))
          have hE : U ++ (D1 ++ D2) = ⟨(txt (bt a) (k + 1)).toArray⟩ := by
            rw [hn.out, ← eU, ET.out, ← ED1.out, ← ED2.out, if_pos hk0]
            show (_ ++ (⟨[58].toArray⟩ : ByteArray)) ++ ((⟨[hexD X].toArray⟩ : ByteArray) ++ (⟨[hexD Y].toArray⟩ : ByteArray)) = _
            rw [cat_arr, cat_arr, cat_arr]; rfl
          have HE := Lib.hid hE
          clear hE eU
          go_wp2
          go_roundw
          case rel => exact ⟨k + 1, U ++ (D1 ++ D2), by omega, by rw [HE.out, txt_size]; omega, by go_num, rfl, HE.out, hB.trans ⟨rfl, rfl, rfl, Nat.le_refl _, fun _ _ => rfl⟩⟩
          case measure => simp [intOf]; omega
      · obtain rfl : k = 6 := by omega
        subst eT
        go_wp2
        go_ret2
        exact ⟨rfl, hB⟩
  · rw [printS, printE, if_neg h6, if_neg h6]
    have hz : ((a.size : Int) == 6) = false := by rw [beq_eq_false_iff_ne]; omega
    go_enter Try.func9, Try.ntmps9
    go_wp2
    go_ret2
    exact ⟨rfl, Below.refl _ _⟩
end Go.Proofs.Ythknggabioadhaa

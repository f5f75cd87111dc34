/-
  For every input the law AddrBits returns true, and its arguments read afterwards as before; no condition beyond the form's own reach.
-/
import Derived.Test.YthknggabioadhaaLaw
import Derived.Test.YthknggabioadhaaFixed
namespace Go.Proofs.Ythknggabioadhaa
open Go.Joins Go.ChangeShapes Go.WideShapes Go.ChangeAt Go.RowKit Go.Deep
open Go.ChangeMaps (open_string)


theorem bits_six (a : ByteArray) (h : a.size = 6) : (kindV a = 1 ↔ (bt a 0).toNat % 2 = 0) ∧ (kindV a = 3 ↔ printS a = ⟨#[102, 102, 58, 102, 102, 58, 102, 102, 58, 102, 102, 58, 102, 102, 58, 102, 102]⟩) := by
  have e3 : kindV a = 3 ↔ a = ⟨#[255, 255, 255, 255, 255, 255]⟩ := by
    rw [kindV, if_neg (by omega)]
    by_cases hA : a = ⟨#[255, 255, 255, 255, 255, 255]⟩
    · rw [if_pos hA]; simp [hA]
    · rw [if_neg hA]; split <;> simp [hA]
  constructor
  · rw [kindV, if_neg (by omega)]
    by_cases hA : a = ⟨#[255, 255, 255, 255, 255, 255]⟩
    · rw [if_pos hA, hA]; decide
    · rw [if_neg hA]; split <;> omega
  · rw [e3]
    have hp : printS ⟨#[255, 255, 255, 255, 255, 255]⟩ = ⟨#[102, 102, 58, 102, 102, 58, 102, 102, 58, 102, 102, 58, 102, 102, 58, 102, 102]⟩ := by decide +kernel
    constructor
    · rintro rfl; exact hp
    · intro e
      exact print_inj a _ h rfl (by rw [e, hp])
set_option maxRecDepth 100000 in
set_option maxHeartbeats 1000000 in
theorem addrBits_any (a : ByteArray) (w : World) :
    Calls Try.prog 7 #[.string a] w fun e w' => e = .returned (.bool true) ∧ Below w.heap.size w w' := by
  have hB := Below.refl w.heap.size w
  have G1 := Lib.hid (fun w => kind_any a w)
  have G2 := Lib.hid (fun w => print_any a w)
  by_cases h6 : a.size = 6
  · obtain ⟨b1, b2⟩ := bits_six a h6
    have hz := print_size a h6
    rw [show printE a = 0 from if_pos h6] at G2
    obtain ⟨K, eK⟩ : ∃ K, kindV a = K := ⟨_, rfl⟩
    obtain ⟨T, eT⟩ : ∃ T, printS a = T := ⟨_, rfl⟩
    rw [eK] at G1 b1 b2
    rw [eT] at G2 b2 hz
    clear eK eT
    have hs6 : (a.size : Int) = 6 := by omega
    have h0 : 0 < a.size := by omega
    rw [bt_in a 0 h0] at b1
    have hc := UInt8.toNat_lt a[0]
    have k1 : ((K == 1) == ((a[0].toNat : Int) % 2 == 0)) = true := by
      by_cases e : K = 1
      · have := b1.1 e; simp [e]; omega
      · have : ¬ a[0].toNat % 2 = 0 := fun h => e (b1.2 h)
        have e2 : ((a[0].toNat : Int) % 2 == 0) = false := by rw [beq_eq_false_iff_ne]; omega
        rw [e2]; simp [e]
    have k2 : ((K == 3) == (T.toList == [102, 102, 58, 102, 102, 58, 102, 102, 58, 102, 102, 58, 102, 102, 58, 102, 102])) = true := by
      by_cases e : T = ⟨#[102, 102, 58, 102, 102, 58, 102, 102, 58, 102, 102, 58, 102, 102, 58, 102, 102]⟩
      · rw [b2.2 e, e, ByteArray.toList_eq]; rfl
      · have e1 := str_ne e
        rw [ByteArray.toList_eq ⟨#[102, 102, 58, 102, 102, 58, 102, 102, 58, 102, 102, 58, 102, 102, 58, 102, 102]⟩] at e1
        have e3 : ¬ K = 3 := fun h => e (b2.1 h)
        have e4 : (K == 3) = false := by rw [beq_eq_false_iff_ne]; exact e3
        rw [e4]
        show (false == (T.toList == _)) = true
        rw [e1]; rfl
    have hzT : (T.size : Int) = 17 := by omega
    clear b1 b2 hz
    go_enter Try.func7, Try.ntmps7
    go_wp2_with (first
      | (go_at_call 13; ((with_reducible refine (G1.out _).mono ?_); rintro e w1 ⟨rfl, rfl⟩))
      | (go_at_call 8; ((with_reducible refine (G2.out _).mono ?_); rintro e w1 ⟨rfl, hq⟩; replace hB := bl hB hq; clear hq))
      | (go_at_call 12; ((with_reducible refine (fixed_any _).mono ?_); rintro e w1 ⟨rfl, hq⟩; replace hB := bl hB hq; clear hq)))
    all_goals
      go_ret
      exact ⟨rfl, hB⟩
  · rw [show printE a = 1 from if_neg h6] at G2
    rw [show kindV a = 0 from if_pos h6] at G1
    have hs6 : ((a.size : Int) == 6) = false := by rw [beq_eq_false_iff_ne]; omega
    go_enter Try.func7, Try.ntmps7
    go_wp2_with (first
      | (go_at_call 13; ((with_reducible refine (G1.out _).mono ?_); rintro e w1 ⟨rfl, rfl⟩))
      | (go_at_call 8; ((with_reducible refine (G2.out _).mono ?_); rintro e w1 ⟨rfl, hq⟩; replace hB := bl hB hq; clear hq))
      | (go_at_call 12; ((with_reducible refine (fixed_any _).mono ?_); rintro e w1 ⟨rfl, hq⟩; replace hB := bl hB hq; clear hq)))
    go_ret
    exact ⟨rfl, hB⟩

set_option maxRecDepth 100000 in
theorem addrBits_lifted (os : Os) (started : os.Started) (H : Type) (enc : TypeId × Value → H) :
    ReturnsInHanded {} Try.checked os 7 .any (Rows.addrBitsSpec.pre6 enc Try.prog Try.f7 Rows.addrBitsRow.domain false) (Rows.addrBitsSpec.post enc Try.prog Try.f7 false true false false) := by
  have e : Try.f7.params.toList = [9] := by rw [Try.params7]
  refine law_of_walk (C := Try.checked) (tb := 4) H enc Try.own started (by kernel_rfl) Try.func7 Try.laidOut rfl rfl Try.underlying4 ?_ ?_
    (ChangeSpec.witness6 (enc := enc) (C := Try.checked) false ⟨#[], #[.string ByteArray.empty], []⟩ 8 (by kernel_rfl) (by kernel_rfl) (by kernel_rfl) (by kernel_rfl)) ?_
  · rw [e]
    intro t ht
    simp only [List.mem_cons, List.not_mem_nil, or_false] at ht
    rcases ht with rfl <;> exact ⟨by kernel_rfl, of_decide_eq_true (by kernel_rfl)⟩
  · intro ds hds
    rw [e] at hds
    match ds, hds with
    | [d0], _ => rfl
  · intro W base args ds p hval0 hA0 hsz0
    have hval : ∀ (j : Nat) t v, Try.f7.params[j]? = some t → args[j]? = some v → Value.okWide Try.prog W .any base t v := hval0
    have hA : DataW.TrodAll enc Try.prog W 0 (fun _ => true) true Try.f7.params.toList args.toList ds p := hA0
    have hsz : (DataW.weightsEach Try.prog Try.f7.params.toList ds).all (· ≤ reachBytes) = true := hsz0
    rw [Try.params7] at hA hval hsz
    obtain ⟨v0, d0, rfl, rfl, h0⟩ := trodAll_one hA
    obtain ⟨x0, rfl, rfl, rfl, _⟩ := open_string Try.underlying9 (hval 0 9 v0 rfl rfl) h0
    have s0 := sized_string hsz (j := 0) (t := 9) rfl rfl
    simp only [reachBytes] at s0
    exact addrBits_any x0 W

theorem addrBits_holds : Rows.AddrBitsSaid :=
  OpenClaim.holds_of_wide 7 Try.f7 rfl rfl rfl rfl rfl rfl rfl ⟨rfl, rfl, rfl, rfl, rfl⟩ rfl rfl rfl rfl rfl (by kernel_rfl) Try.func7 (by kernel_rfl)
    (of_decide_eq_true (by kernel_rfl)) (by unfold Func.isWrapper; first | (rw [if_pos (by decide +kernel)]; kernel_rfl) | (rw [if_neg (by decide +kernel)]; exact ⟨rfl, rfl⟩))
    (fun os started H enc _ => addrBits_lifted os started H enc)
end Go.Proofs.Ythknggabioadhaa

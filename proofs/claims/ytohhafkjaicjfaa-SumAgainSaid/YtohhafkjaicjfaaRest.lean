/-
  What csum's Sum, Right, Update, Join and the document's Sum, Update, Join answer: for every word and every string within the language's own length.
-/
import Derived.Test.YtohhafkjaicjfaaOnr
import Derived.Lib.Hide
namespace Go.Proofs.Ytohhafkjaicjfaa
open Go.RowKit

theorem not_u16 (x : Int) (h1 : 0 ≤ x) (h2 : x ≤ 65535) : bits .xor .u16 IntKind.u16.max x = 65535 - x := by
  obtain ⟨n, rfl⟩ := Int.eq_ofNat_of_zero_le h1
  show IntKind.u16.wrap (((BitVec.allOnes 16 ^^^ BitVec.ofInt 16 (n : Int)).toNat : Nat) : Int) = _
  rw [BitVec.allOnes_xor, BitVec.ofInt_natCast, BitVec.toNat_not, BitVec.toNat_ofNat, IntKind.wrap_u16]
  omega

theorem add_new (s x : Int) (w : World) (h1 : 0 ≤ s) (h2 : s ≤ 65535) (h3 : 0 ≤ x) (h4 : x ≤ 65535) :
    Calls Try.prog 23 #[.int .u16 x, .pointer (some ⟨w.heap.size, 0, none⟩)] (w.alloc (.cells #[.int .u16 s] 22)) fun e w' => e = .returned (.int .u16 (ones s x)) ∧ w' = w.alloc (.cells #[.int .u16 (ones s x)] 22) := by
  refine (add_any w.heap.size s x _ h1 h2 h3 h4 (by rw [World.cell?_alloc_at _ _ _ _ rfl]; rfl) (World.frozen?_alloc_at _ _ _ _ rfl)).mono fun e w' ⟨he, hw⟩ => ⟨he, ?_⟩
  rw [hw]
  go_simp

theorem sum_any (s : ByteArray) (w : World) (hs : s.size ≤ maxLen) :
    Calls Try.prog 13 #[.string s] w fun e w' => e = .returned (.int .u16 (65535 - onS 0 s)) ∧ Below w.heap.size w w' := by
  have hr := onS_range s 0 (by omega) (by omega)
  have hx := not_u16 (onS 0 s) hr.1 hr.2
  go_enter Try.func13, Try.ntmps13
  go_wp2_with (go_at_call 11; refine (on_any 0 s _ (by omega) (by omega) hs).mono ?_; rintro e w1 ⟨rfl, hb⟩)
  go_ret
  exact ⟨rfl, hb⟩
theorem right_any (s : ByteArray) (w : World) (hs : s.size ≤ maxLen) :
    Calls Try.prog 15 #[.string s] w fun e w' => e = .returned (.bool (onS 0 s == 65535)) ∧ Below w.heap.size w w' := by
  have hr := onS_range s 0 (by omega) (by omega)
  go_enter Try.func15, Try.ntmps15
  go_wp2_with (go_at_call 11; refine (on_any 0 s _ (by omega) (by omega) hs).mono ?_; rintro e w1 ⟨rfl, hb⟩)
  go_ret
  exact ⟨rfl, hb⟩
theorem sumr_any (s : ByteArray) (w : World) (hs : s.size < maxLen) :
    Calls Try.prog 14 #[.string s] w fun e w' => e = .returned (.int .u16 (65535 - onS 0 s)) ∧ w = w' := by
  have hr := onS_range s 0 (by omega) (by omega)
  go_enter Try.func14, Try.ntmps14
  go_wp2_with (go_at_call 12; refine (onr_any 0 s _ (by omega) (by omega) hs).mono ?_; rintro e w1 ⟨rfl, rfl⟩)
  go_ret
  exact ⟨rfl, rfl⟩
theorem updr_any (a b c : Int) (w : World) (a1 : 0 ≤ a) (a2 : a ≤ 65535) (b1 : 0 ≤ b) (b2 : b ≤ 65535) (c1 : 0 ≤ c) (c2 : c ≤ 65535) :
    Calls Try.prog 17 #[.int .u16 a, .int .u16 b, .int .u16 c] w fun e w' => e = .returned (.int .u16 (upd a b c)) ∧ w = w' := by
  have hr1 := ones_range (65535 - a) (65535 - b) (by omega) (by omega) (by omega) (by omega)
  have hr2 := ones_range (ones (65535 - a) (65535 - b)) c hr1.1 hr1.2 (by omega) (by omega)
  go_enter Try.func17, Try.ntmps17
  go_wp2_with (go_at_call 22; refine (ones_any _ _ _ (by omega) (by omega) (by omega) (by omega)).mono ?_; rintro e w1 ⟨rfl, rfl⟩)
  go_ret
  exact ⟨rfl, rfl⟩
theorem upd_any (a b c : Int) (w : World) (a1 : 0 ≤ a) (a2 : a ≤ 65535) (b1 : 0 ≤ b) (b2 : b ≤ 65535) (c1 : 0 ≤ c) (c2 : c ≤ 65535) :
    Calls Try.prog 16 #[.int .u16 a, .int .u16 b, .int .u16 c] w fun e w' => e = .returned (.int .u16 (upd a b c)) ∧ Below w.heap.size w w' := by
  have hr1 := ones_range (65535 - a) (65535 - b) (by omega) (by omega) (by omega) (by omega)
  have hr2 := ones_range (ones (65535 - a) (65535 - b)) c hr1.1 hr1.2 (by omega) (by omega)
  have hx1 := not_u16 a a1 a2
  have hx2 := not_u16 b b1 b2
  have hx3 := not_u16 _ hr2.1 hr2.2
  have hsg : IntKind.u16.signed = false := rfl
  go_enter Try.func16, Try.ntmps16
  go_wp2_with (first
    | (go_at_call 20; refine (adder_any _ _).mono ?_; rintro e w1 ⟨rfl, rfl⟩)
    | (go_at_call 23; refine (add_new _ _ _ (by omega) (by omega) (by omega) (by omega)).mono ?_; rintro e w1 ⟨rfl, rfl⟩))
  go_ret
  exact ⟨rfl, (Below.refl _ _).alloc (Nat.le_refl _) _⟩

theorem joinr_any (a b n : Int) (w : World) (a1 : 0 ≤ a) (a2 : a ≤ 65535) (b1 : 0 ≤ b) (b2 : b ≤ 65535) :
    Calls Try.prog 19 #[.int .u16 a, .int .u16 b, .int .i64 n] w fun e w' => e = .returned (.int .u16 (join a b n)) ∧ w = w' := by
  unfold join
  by_cases h : n % 2 = 0
  · rw [if_pos h]
    have hr := ones_range a b a1 a2 b1 b2
    have ht : n.tmod 2 = 0 := by rw [Int.tmod_eq_emod]; split <;> omega
    go_enter Try.func19, Try.ntmps19
    go_wp2_with (go_at_call 22; refine (ones_any _ _ _ (by omega) (by omega) (by omega) (by omega)).mono ?_; rintro e w1 ⟨rfl, rfl⟩)
    go_ret
    exact ⟨rfl, rfl⟩
  · rw [if_neg h]
    have hs : 0 ≤ swap b ∧ swap b ≤ 65535 := by unfold swap; omega
    have hr := ones_range a (swap b) a1 a2 hs.1 hs.2
    have ht : n.tmod 2 ≠ 0 := by rw [Int.tmod_eq_emod]; split <;> omega
    have hsw : b % 256 * 256 + b / 256 = swap b := rfl
    go_enter Try.func19, Try.ntmps19
    go_wp2_with (go_at_call 22; refine (ones_any _ _ _ (by omega) (by omega) (by omega) (by omega)).mono ?_; rintro e w1 ⟨rfl, rfl⟩)
    go_ret
    exact ⟨rfl, rfl⟩
theorem join_any (a b n : Int) (w : World) (a1 : 0 ≤ a) (a2 : a ≤ 65535) (b1 : 0 ≤ b) (b2 : b ≤ 65535) :
    Calls Try.prog 18 #[.int .u16 a, .int .u16 b, .int .i64 n] w fun e w' => e = .returned (.int .u16 (join a b n)) ∧ Below w.heap.size w w' := by
  unfold join
  by_cases h : n % 2 = 0
  · rw [if_pos h]
    have hr := ones_range a b a1 a2 b1 b2
    have ht : n.tmod 2 = 0 := by rw [Int.tmod_eq_emod]; split <;> omega
    go_enter Try.func18, Try.ntmps18
    go_wp2_with (first
      | (go_at_call 20; refine (adder_any _ _).mono ?_; rintro e w1 ⟨rfl, rfl⟩)
      | (go_at_call 23; refine (add_new _ _ _ (by omega) (by omega) (by omega) (by omega)).mono ?_; rintro e w1 ⟨rfl, rfl⟩))
    go_ret
    exact ⟨rfl, (Below.refl _ _).alloc (Nat.le_refl _) _⟩
  · rw [if_neg h]
    have hs : 0 ≤ swap b ∧ swap b ≤ 65535 := by unfold swap; omega
    have hr := ones_range a (swap b) a1 a2 hs.1 hs.2
    have ht : n.tmod 2 ≠ 0 := by rw [Int.tmod_eq_emod]; split <;> omega
    have hsw : bits .or .u16 (IntKind.u16.wrap (b * 256)) (b / 256) = swap b := by
      rw [IntKind.wrap_u16, bits_join .u16 16 (by decide) wraps_u16 8 _ _ (by omega) (by omega) (by omega) (by omega) (by omega) (by omega)]; unfold swap; omega
    go_enter Try.func18, Try.ntmps18
    go_wp2_with (first
      | (go_at_call 20; refine (adder_any _ _).mono ?_; rintro e w1 ⟨rfl, rfl⟩)
      | (go_at_call 23; refine (add_new _ _ _ (by omega) (by omega) (by omega) (by omega)).mono ?_; rintro e w1 ⟨rfl, rfl⟩))
    go_ret
    exact ⟨rfl, (Below.refl _ _).alloc (Nat.le_refl _) _⟩
end Go.Proofs.Ytohhafkjaicjfaa

/-
  What csum's Sum, Right, Update, Join and the document's Sum, Update, Join answer: for every word and every string within the language's own length.
-/
import Derived.Test.YtpjndjmneficbaaConr
import Derived.Lib.Hide
namespace Go.Proofs.Ytpjndjmneficbaa
open Go.RowKit

theorem not_u16 (x : Int) (h1 : 0 ≤ x) (h2 : x ≤ 65535) : bits .xor .u16 IntKind.u16.max x = 65535 - x := by
  obtain ⟨n, rfl⟩ := Int.eq_ofNat_of_zero_le h1
  show IntKind.u16.wrap (((BitVec.allOnes 16 ^^^ BitVec.ofInt 16 (n : Int)).toNat : Nat) : Int) = _
  rw [BitVec.allOnes_xor, BitVec.ofInt_natCast, BitVec.toNat_not, BitVec.toNat_ofNat, IntKind.wrap_u16]
  omega

theorem add_new (s x : Int) (w : World) (h1 : 0 ≤ s) (h2 : s ≤ 65535) (h3 : 0 ≤ x) (h4 : x ≤ 65535) :
    Calls Try.prog 87 #[.int .u16 x, .pointer (some ⟨w.heap.size, 0, none⟩)] (w.alloc (.cells #[.int .u16 s] 90)) fun e w' => e = .returned (.int .u16 (ones s x)) ∧ w' = w.alloc (.cells #[.int .u16 (ones s x)] 90) := by
  refine (add_any w.heap.size s x _ h1 h2 h3 h4 (by rw [World.cell?_alloc_at _ _ _ _ rfl]; rfl) (World.frozen?_alloc_at _ _ _ _ rfl)).mono fun e w' ⟨he, hw⟩ => ⟨he, ?_⟩
  rw [hw]
  go_simp

theorem sum_any (s : ByteArray) (w : World) (hs : s.size ≤ maxLen) :
    Calls Try.prog 78 #[.string s] w fun e w' => e = .returned (.int .u16 (65535 - onS 0 s)) ∧ Below w.heap.size w w' := by
  have hr := onS_range s 0 (by omega) (by omega)
  have hx := not_u16 (onS 0 s) hr.1 hr.2
  go_enter Try.func78, Try.ntmps78
  go_wp2_with (go_at_call 83; refine (on_any 0 s _ (by omega) (by omega) hs).mono ?_; rintro e w1 ⟨rfl, hb⟩)
  go_ret
  exact ⟨rfl, hb⟩
theorem sumr_any (s : ByteArray) (w : World) (hs : s.size < maxLen) :
    Calls Try.prog 71 #[.string s] w fun e w' => e = .returned (.int .u16 (65535 - onS 0 s)) ∧ w = w' := by
  have hr := onS_range s 0 (by omega) (by omega)
  go_enter Try.func71, Try.ntmps71
  go_wp2_with (go_at_call 81; refine (onr_any 0 s _ (by omega) (by omega) hs).mono ?_; rintro e w1 ⟨rfl, rfl⟩)
  go_ret
  exact ⟨rfl, rfl⟩
end Go.Proofs.Ytpjndjmneficbaa

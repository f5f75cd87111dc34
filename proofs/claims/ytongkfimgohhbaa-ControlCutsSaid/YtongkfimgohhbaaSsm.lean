/-
  The document's Same of lists of numbers that are the same; no condition.
-/
import Derived.Test.YtongkfimgohhbaaSck
namespace Go.Proofs.Ytongkfimgohhbaa
open Go.RowKit
namespace Rs
set_option maxHeartbeats 1000000 in
theorem same_yes (L : List Int) (A A' : Option Addr) (c c' : Nat) (w : World) (hl : L.length ≤ 600) (h1 : Tab A L w) (h2 : Tab A' L w) :
    Calls Try.prog 28 #[.slice A L.length c, .slice A' L.length c'] w fun e w' => e = .returned (.bool true) ∧ Below w.heap.size w w' := by
  have H1 := Lib.hid h1
  have H2 := Lib.hid h2
  clear h1 h2
  go_enter Try.func28, Try.ntmps28
  go_wp2
  go_loopw [5] (fun i wr => ∃ k : Nat, k ≤ L.length ∧ i = .int .i64 k ∧ Below w.heap.size w wr) (fun i _ => L.length - (intOf i).toNat)
  case atStart => exact ⟨0, Nat.zero_le _, rfl, Below.refl _ _⟩
  case round =>
    obtain ⟨k, hk, rfl, hb⟩ := hrel
    by_cases hlt : k < L.length
    · obtain ⟨b, off, x, rfl, hx, hc⟩ := (H1.out.below hb).at k hlt
      obtain ⟨b', off', x', rfl, hx', hc'⟩ := (H2.out.below hb).at k hlt
      obtain rfl : x = x' := hx.symm.trans hx'
      clear hx hx'
      go_wp2_with fail
      have e1 : (0 : Int) ≤ (k : Int) := by omega
      have e2 : (k : Int) < (L.length : Int) := by omega
      go_quiet (fail)
      go_wp2
      go_roundw
      case rel => exact ⟨k + 1, by omega, by go_num, below_drewN hb _⟩
      case measure => simp [intOf]; omega
    · go_wp2
      go_ret
      exact ⟨rfl, hb⟩
end Rs
end Go.Proofs.Ytongkfimgohhbaa

/-
  The laws' own fixed is true.
-/
import Derived.Test.YtpjndjmneficbaaRch
import Derived.Test.YtpjndjmneficbaaRev
namespace Go.Proofs.Ytpjndjmneficbaa
open Go.RowKit

structure FX (w w' : World) : Prop where
  tb : Blk w' w.heap.size 3 #[.int .i64 5]
  rb : Blk w' (w.heap.size + 1) 24 #[.int .i64 126, .slice (some ⟨w.heap.size, 0, none⟩) 1 1, .string ⟨#[97, 98, 99, 100]⟩, .int .i64 3]
  below : Below w.heap.size w w'
section
variable {w w1 w' : World}
theorem FX.new : FX w ((w.alloc (.cells #[.int .i64 5] 3)).alloc (.cells #[.int .i64 126, .slice (some ⟨w.heap.size, 0, none⟩) 1 1, .string ⟨#[97, 98, 99, 100]⟩, .int .i64 3] 24)) := by
  refine ⟨(Blk.new w 3 _).alloc _, ?_, ((Below.refl _ _).alloc (Nat.le_refl _) _).alloc (by simp) _⟩
  have := Blk.new (w.alloc (.cells #[.int .i64 5] 3)) 24 #[.int .i64 126, .slice (some ⟨w.heap.size, 0, none⟩) 1 1, .string ⟨#[97, 98, 99, 100]⟩, .int .i64 3]
  rw [show (w.alloc (.cells #[.int .i64 5] 3)).heap.size = w.heap.size + 1 by simp] at this
  exact this
theorem FX.next (h : FX w w1) (hq : Below w1.heap.size w1 w') : FX w w' :=
  ⟨h.tb.same (hq.block _ h.tb.lt), h.rb.same (hq.block _ h.rb.lt), h.below.trans (hq.mono h.below.size)⟩
theorem FX.tab (h : FX w w') : Tab (some ⟨w.heap.size, 0, none⟩) [5] w' := by
  intro _
  refine ⟨w.heap.size, 0, rfl, h.tb.lt, fun i hi => ?_⟩
  obtain rfl : i = 0 := by simp at hi; omega
  rw [h.tb.cell]
  rfl
end
theorem tab_of_blk {w : World} {g : Nat} {L : List Int} (h : Blk w g 3 (L.map intV).toArray) : Tab (some ⟨g, 0, none⟩) L w := by
  intro _
  refine ⟨g, 0, rfl, h.lt, fun i hi => ?_⟩
  rw [Nat.zero_add, h.cell]
  simp [hi, intV]
theorem fx_c1 : checkV 126 [5] ⟨#[97, 98, 99, 100]⟩ 3 = 0 := by decide +kernel
theorem fx_c2 : checkV 0 [] ⟨#[]⟩ 0 = 110 := by decide +kernel
theorem fx_s8 : chooseV 126 [5] ⟨#[97, 98, 99, 100]⟩ 3 ⟨#[110, 111, 110, 101]⟩ 8 = 3 := by decide +kernel
theorem fx_s2 : chooseV 126 [5] ⟨#[97, 98, 99, 100]⟩ 3 ⟨#[110, 111, 110, 101]⟩ 2 = 0 := by decide +kernel
theorem fx_ev : evenL 4 3 = [0, 1, 2, 0] := by decide +kernel
set_option maxRecDepth 100000 in
set_option maxHeartbeats 1600000 in
theorem fixed_any (w : World) : Calls Try.prog 16 #[] w fun e w' => e = .returned (.bool true) ∧ Below w.heap.size w w' := by
  have A1 : ∀ W, FX w W → Calls Try.prog 14 #[.agg #[.int .i64 126, .slice (some ⟨w.heap.size, 0, none⟩) 1 1, .string ⟨#[97, 98, 99, 100]⟩, .int .i64 3]] W fun e w' => e = .returned (.int .i64 0) ∧ Below W.heap.size W w' := fun W h => by
    have := check_any 126 _ 1 [5] ⟨#[97, 98, 99, 100]⟩ 3 W h.tab
    rw [fx_c1] at this
    exact this
  have A2 : ∀ W, Calls Try.prog 14 #[.agg #[.int .i64 0, .slice none 0 0, .string ⟨#[]⟩, .int .i64 0]] W fun e w' => e = .returned (.int .i64 110) ∧ Below W.heap.size W w' := fun W => by
    have := check_any 0 none 0 [] ⟨#[]⟩ 0 W (fun h => by simp at h)
    rw [fx_c2] at this
    exact this
  have A3 : ∀ W, FX w W → Calls Try.prog 17 #[.agg #[.int .i64 126, .slice (some ⟨w.heap.size, 0, none⟩) 1 1, .string ⟨#[97, 98, 99, 100]⟩, .int .i64 3], .string ⟨#[110, 111, 110, 101]⟩, .int .i64 8] W fun e w' => e = .returned (.int .i64 3) ∧ Below W.heap.size W w' := fun W h => by
    have := chs_any 126 _ 1 [5] ⟨#[97, 98, 99, 100]⟩ 3 ⟨#[110, 111, 110, 101]⟩ 8 W h.tab
    rw [fx_s8] at this
    exact this
  have A4 : ∀ W, FX w W → Calls Try.prog 17 #[.agg #[.int .i64 126, .slice (some ⟨w.heap.size, 0, none⟩) 1 1, .string ⟨#[97, 98, 99, 100]⟩, .int .i64 3], .string ⟨#[110, 111, 110, 101]⟩, .int .i64 2] W fun e w' => e = .returned (.int .i64 0) ∧ Below W.heap.size W w' := fun W h => by
    have := chs_any 126 _ 1 [5] ⟨#[97, 98, 99, 100]⟩ 3 ⟨#[110, 111, 110, 101]⟩ 2 W h.tab
    rw [fx_s2] at this
    exact this
  have A5 : ∀ W : World, Calls Try.prog 11 #[.int .i64 4, .int .i64 3] W fun e w' => e = .returned (.slice (some ⟨W.heap.size, 0, none⟩) 4 4) ∧ GI W.heap.size W.heap.size 4 4 [0, 1, 2, 0] W w' := fun W => by
    have := even_good 4 3 W (by omega) (by omega) (by omega) (by omega)
    rw [fx_ev] at this
    exact this
  have A6 : ∀ W : World, Calls Try.prog 11 #[.int .i64 0, .int .i64 1] W fun e w' => e = .returned (.slice none 0 0) ∧ W = w' := fun W => even_bad 0 1 W false rfl (fun h => by cases h)
  have A7 : ∀ (W : World) (A A' : Option Addr), Tab A [0, 1, 2, 0] W → Tab A' [0, 1, 2, 0] W → Calls Try.prog 12 #[.slice A 4 4, .slice A' 4 4] W fun e w' => e = .returned (.bool true) ∧ Below W.heap.size W w' := fun W A A' h h' => same_yes [0, 1, 2, 0] A A' 4 4 W (by simp) h h'
  have H1 := Lib.hid A1
  have H2 := Lib.hid A2
  have H3 := Lib.hid A3
  have H4 := Lib.hid A4
  have H5 := Lib.hid A5
  have H6 := Lib.hid A6
  have H7 := Lib.hid A7
  clear A1 A2 A3 A4 A5 A6 A7
  go_enter Try.func16, Try.ntmps16
  go_wp2_with fail
  have h0 := FX.new (w := w)
  refine (H1.out _ h0).mono ?_
  rintro e w1 ⟨rfl, hq⟩
  have h1 := h0.next hq
  clear hq h0
  go_wp2_with fail
  refine (H2.out _).mono ?_
  rintro e w2 ⟨rfl, hq⟩
  have h2 := h1.next hq
  clear hq h1
  have c0 := h2.rb.cell 0
  have c1 := h2.rb.cell 1
  have c2 := h2.rb.cell 2
  have c3 := h2.rb.cell 3
  simp only [List.getElem?_toArray, List.getElem?_cons_zero, List.getElem?_cons_succ] at c0 c1 c2 c3
  go_wp2_with fail
  refine (H3.out _ h2).mono ?_
  rintro e w3 ⟨rfl, hq⟩
  have h3 := h2.next hq
  clear hq h2 c0 c1 c2 c3
  have c0 := h3.rb.cell 0
  have c1 := h3.rb.cell 1
  have c2 := h3.rb.cell 2
  have c3 := h3.rb.cell 3
  simp only [List.getElem?_toArray, List.getElem?_cons_zero, List.getElem?_cons_succ] at c0 c1 c2 c3
  go_wp2_with fail
  refine (H4.out _ h3).mono ?_
  rintro e w4 ⟨rfl, hq⟩
  have h4 := h3.next hq
  clear hq h3 c0 c1 c2 c3
  go_wp2_with fail
  refine (H5.out _).mono ?_
  rintro e w5 ⟨rfl, hg⟩
  have hb := h4.below.trans (hg.below.mono h4.below.size)
  go_wp2_with fail
  refine (H7.out _ _ _ (hg.tab.below ((Below.refl _ _).alloc (Nat.le_refl _) _)) (tab_of_blk (Blk.new w5 3 _))).mono ?_
  rintro e w6 ⟨rfl, hq⟩
  have hb := (hb.alloc hb.size _).trans (hq.mono (by have := hb.size; simp; omega))
  clear hq hg h4
  go_wp2_with (go_at_call 11; ((with_reducible refine (H6.out _).mono ?_); rintro e w' ⟨rfl, rfl⟩))
  go_ret
  exact ⟨rfl, hb⟩
end Go.Proofs.Ytpjndjmneficbaa

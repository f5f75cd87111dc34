/-
  The calls whose answers the document fixes are answered so; no condition.
-/
import Derived.Test.YtdfllobhcfajjaaTagr
namespace Go.Proofs.Ytdfllobhcfajjaa
open Go.RowKit

theorem fx1 (w : World) : Calls Try.prog 10 #[.string ⟨#[65, 66, 67, 68, 69, 70, 71, 72, 73, 74, 75, 76, 8, 0, 104, 105]⟩] w fun e w' => e = .returned (.tuple #[.agg #[.string ⟨#[65, 66, 67, 68, 69, 70]⟩, .string ⟨#[71, 72, 73, 74, 75, 76]⟩, .int .i64 (-1), .int .i64 0, .int .i64 2048, .string ⟨#[104, 105]⟩], .int .i64 0]) ∧ Below w.heap.size w w' := by
  have h := parse_any ⟨#[65, 66, 67, 68, 69, 70, 71, 72, 73, 74, 75, 76, 8, 0, 104, 105]⟩ w
  rw [show (parseF ⟨#[65, 66, 67, 68, 69, 70, 71, 72, 73, 74, 75, 76, 8, 0, 104, 105]⟩).val = .agg #[.string ⟨#[65, 66, 67, 68, 69, 70]⟩, .string ⟨#[71, 72, 73, 74, 75, 76]⟩, .int .i64 (-1), .int .i64 0, .int .i64 2048, .string ⟨#[104, 105]⟩] from rfl, show parseE ⟨#[65, 66, 67, 68, 69, 70, 71, 72, 73, 74, 75, 76, 8, 0, 104, 105]⟩ = 0 by decide +kernel] at h
  exact h
theorem fx2 (w : World) : Calls Try.prog 10 #[.string ⟨#[65, 66, 67, 68, 69, 70, 71, 72, 73, 74, 75, 76, 8]⟩] w fun e w' => e = .returned (.tuple #[.agg #[.string ⟨#[]⟩, .string ⟨#[]⟩, .int .i64 0, .int .i64 0, .int .i64 0, .string ⟨#[]⟩], .int .i64 60]) ∧ Below w.heap.size w w' := by
  have h := parse_any ⟨#[65, 66, 67, 68, 69, 70, 71, 72, 73, 74, 75, 76, 8]⟩ w
  rw [show (parseF ⟨#[65, 66, 67, 68, 69, 70, 71, 72, 73, 74, 75, 76, 8]⟩).val = .agg #[.string ⟨#[]⟩, .string ⟨#[]⟩, .int .i64 0, .int .i64 0, .int .i64 0, .string ⟨#[]⟩] from rfl, show parseE ⟨#[65, 66, 67, 68, 69, 70, 71, 72, 73, 74, 75, 76, 8]⟩ = 60 by decide +kernel] at h
  exact h
theorem fx6 (w : World) : Calls Try.prog 10 #[.string ⟨#[65, 66, 67, 68, 69, 70, 71, 72, 73, 74, 75, 76, 129, 0, 15, 255, 8, 0]⟩] w fun e w' => e = .returned (.tuple #[.agg #[.string ⟨#[]⟩, .string ⟨#[]⟩, .int .i64 0, .int .i64 0, .int .i64 0, .string ⟨#[]⟩], .int .i64 61]) ∧ Below w.heap.size w w' := by
  have h := parse_any ⟨#[65, 66, 67, 68, 69, 70, 71, 72, 73, 74, 75, 76, 129, 0, 15, 255, 8, 0]⟩ w
  rw [show (parseF ⟨#[65, 66, 67, 68, 69, 70, 71, 72, 73, 74, 75, 76, 129, 0, 15, 255, 8, 0]⟩).val = .agg #[.string ⟨#[]⟩, .string ⟨#[]⟩, .int .i64 0, .int .i64 0, .int .i64 0, .string ⟨#[]⟩] from rfl, show parseE ⟨#[65, 66, 67, 68, 69, 70, 71, 72, 73, 74, 75, 76, 129, 0, 15, 255, 8, 0]⟩ = 61 by decide +kernel] at h
  exact h
theorem fx3 (w : World) : Calls Try.prog 15 #[.string ⟨#[65, 66, 67, 68, 69, 70, 71, 72, 73, 74, 75, 76, 8, 0, 104, 105]⟩, .int .i64 5] w fun e w' => e = .returned (.tuple #[.string ⟨#[65, 66, 67, 68, 69, 70, 71, 72, 73, 74, 75, 76, 129, 0, 0, 5, 8, 0, 104, 105]⟩, .int .i64 0]) ∧ Below w.heap.size w w' := by
  have h := tag_any ⟨#[65, 66, 67, 68, 69, 70, 71, 72, 73, 74, 75, 76, 8, 0, 104, 105]⟩ 5 w
  rw [show tagT ⟨#[65, 66, 67, 68, 69, 70, 71, 72, 73, 74, 75, 76, 8, 0, 104, 105]⟩ 5 = ⟨#[65, 66, 67, 68, 69, 70, 71, 72, 73, 74, 75, 76, 129, 0, 0, 5, 8, 0, 104, 105]⟩ by decide +kernel, show tagE ⟨#[65, 66, 67, 68, 69, 70, 71, 72, 73, 74, 75, 76, 8, 0, 104, 105]⟩ 5 = 0 by decide +kernel] at h
  exact h
theorem fx4 (w : World) : Calls Try.prog 13 #[.agg #[.string ⟨#[65, 66, 67, 68, 69, 70]⟩, .string ⟨#[71, 72, 73, 74, 75, 76]⟩, .int .i64 (-1), .int .i64 0, .int .i64 2048, .string ⟨#[104, 105]⟩]] w fun e w' => e = .returned (.tuple #[.string ⟨#[65, 66, 67, 68, 69, 70, 71, 72, 73, 74, 75, 76, 8, 0, 104, 105]⟩, .int .i64 0]) ∧ Below w.heap.size w w' := by
  have h := build_any ⟨⟨#[65, 66, 67, 68, 69, 70]⟩, ⟨#[71, 72, 73, 74, 75, 76]⟩, -1, 0, 2048, ⟨#[104, 105]⟩⟩ w (by decide +kernel)
  rw [show buildS ⟨⟨#[65, 66, 67, 68, 69, 70]⟩, ⟨#[71, 72, 73, 74, 75, 76]⟩, -1, 0, 2048, ⟨#[104, 105]⟩⟩ = ⟨#[65, 66, 67, 68, 69, 70, 71, 72, 73, 74, 75, 76, 8, 0, 104, 105]⟩ by decide +kernel, show buildE ⟨⟨#[65, 66, 67, 68, 69, 70]⟩, ⟨#[71, 72, 73, 74, 75, 76]⟩, -1, 0, 2048, ⟨#[104, 105]⟩⟩ = 0 by decide +kernel] at h
  exact h
theorem fx5 (w : World) : Calls Try.prog 13 #[.agg #[.string ⟨#[]⟩, .string ⟨#[]⟩, .int .i64 0, .int .i64 0, .int .i64 0, .string ⟨#[]⟩]] w fun e w' => e = .returned (.tuple #[.string ⟨#[]⟩, .int .i64 61]) ∧ Below w.heap.size w w' := by
  have h := build_any .zero w (by decide +kernel)
  rw [show buildS .zero = ⟨#[]⟩ by decide +kernel, show buildE .zero = 61 by decide +kernel] at h
  exact h
/-- A frame in a variable of the call's own. -/
structure Hold (w0 : World) (g : Nat) (cs : Array Value) (w : World) : Prop where
  blk : Blk w g 23 cs
  below : Below w0.heap.size w0 w
  ge : w0.heap.size ≤ g
theorem Hold.size {w0 w : World} {g : Nat} {cs : Array Value} (h : Hold w0 g cs w) : w0.heap.size < w.heap.size := by have := h.blk.lt; have := h.ge; omega
theorem Hold.next {w0 w w' : World} {g : Nat} {cs : Array Value} (h : Hold w0 g cs w) (hq : Below w.heap.size w w') : Hold w0 g cs w' :=
  ⟨h.blk.same (hq.block _ h.blk.lt), h.below.trans (hq.mono (by have := h.size; omega)), h.ge⟩
theorem Hold.alloc {w0 w : World} {g : Nat} {cs : Array Value} (h : Hold w0 g cs w) (o : Obj) : Hold w0 g cs (w.alloc o) :=
  ⟨h.blk.alloc o, h.below.alloc (by have := h.size; omega) o, h.ge⟩
theorem Hold.new {w0 w : World} (h : Below w0.heap.size w0 w) (cs : Array Value) : Hold w0 w.heap.size cs (w.alloc (.cells cs 23)) :=
  ⟨Blk.new w 23 cs, h.alloc h.size _, h.size⟩
theorem Hold.cells {w0 w : World} {g : Nat} {a b c d e f : Value} (h : Hold w0 g #[a, b, c, d, e, f] w) : w.cell? ⟨g, 0, none⟩ = some a ∧ w.cell? ⟨g, 1, none⟩ = some b ∧ w.cell? ⟨g, 2, none⟩ = some c ∧ w.cell? ⟨g, 3, none⟩ = some d ∧ w.cell? ⟨g, 4, none⟩ = some e ∧ w.cell? ⟨g, 5, none⟩ = some f ∧ g < w.heap.size :=
  ⟨h.blk.cell 0, h.blk.cell 1, h.blk.cell 2, h.blk.cell 3, h.blk.cell 4, h.blk.cell 5, h.blk.lt⟩
set_option maxRecDepth 100000 in
set_option maxHeartbeats 1600000 in
theorem fixed_any (w : World) : Calls Try.prog 12 #[] w fun e w' => e = .returned (.bool true) ∧ Below w.heap.size w w' := by
  go_enter Try.func12, Try.ntmps12
  go_wp2_with fail
  refine (fx1 _).mono ?_
  rintro e w1 ⟨rfl, hb1⟩
  have H1 := Lib.hid (Hold.new hb1 #[.string ⟨#[65, 66, 67, 68, 69, 70]⟩, .string ⟨#[71, 72, 73, 74, 75, 76]⟩, .int .i64 (-1), .int .i64 0, .int .i64 2048, .string ⟨#[104, 105]⟩])
  clear hb1
  go_wp2_with fail
  refine (fx2 _).mono ?_
  rintro e w2 ⟨rfl, hq⟩
  have H2 := Lib.hid ((H1.out.next hq).alloc (.cells #[.string ⟨#[]⟩, .string ⟨#[]⟩, .int .i64 0, .int .i64 0, .int .i64 0, .string ⟨#[]⟩] 23))
  clear hq H1
  go_wp2_with fail
  refine (fx3 _).mono ?_
  rintro e w3 ⟨rfl, hq⟩
  have h3 := H2.out.next hq
  clear hq H2
  obtain ⟨c0, c1, c2, c3, c4, c5, hz⟩ := h3.cells
  have H3 := Lib.hid h3
  clear h3
  go_wp2_with fail
  refine (fx4 _).mono ?_
  rintro e w4 ⟨rfl, hq⟩
  have H4 := Lib.hid (H3.out.next hq)
  clear hq H3 c0 c1 c2 c3 c4 c5 hz
  go_wp2_with fail
  refine (fx5 _).mono ?_
  rintro e w5 ⟨rfl, hq⟩
  have H5 := Lib.hid (H4.out.next hq)
  clear hq H4
  go_wp2_with fail
  refine (fx6 _).mono ?_
  rintro e w6 ⟨rfl, hq⟩
  have h6 := H5.out.next hq
  clear hq H5
  obtain ⟨c0, c1, c2, c3, c4, c5, hz⟩ := h6.cells
  have H6 := Lib.hid h6
  clear h6
  go_wp2_with fail
  go_ret
  exact ⟨rfl, (H6.out.alloc _).below⟩
end Go.Proofs.Ytdfllobhcfajjaa

/-
  The document's Parse of segments: what is too short or malformed.
-/
import Derived.Test.YtalkpllmcigjnaaMi
import Derived.Test.YtalkpllmcigjnaaMl
import Derived.Test.YtalkpllmcigjnaaMj
import Derived.Deep.RegionHeld3
namespace Go.Proofs.Ytalkpllmcigjnaa
open Go.RowKit

theorem rps_results (w : World) (tmps : Array Value) (gf : Nat) {y0 y1 y2 y3 y4 y5 y6 y7 y8 y9 : Value} {n : Int} (h2 : tmps[2]?.getD undef = .pointer (some ⟨gf, 0, none⟩)) (h3 : tmps[3]?.getD undef = .int .i64 n)
    (hF : Blk w gf 39 #[y0, y1, y2, y3, y4, y5, y6, y7, y8, y9]) : (results Try.f36 tmps).run Try.prog w = .ok (.tuple #[.agg #[y0, y1, y2, y3, y4, y5, y6, y7, y8, y9], .int .i64 n]) w := by
  have c0 := hF.cell 0
  have c1 := hF.cell 1
  have c2 := hF.cell 2
  have c3 := hF.cell 3
  have c4 := hF.cell 4
  have c5 := hF.cell 5
  have c6 := hF.cell 6
  have c7 := hF.cell 7
  have c8 := hF.cell 8
  have c9 := hF.cell 9
  simp only [List.getElem?_toArray, List.getElem?_cons_zero, List.getElem?_cons_succ] at c0 c1 c2 c3 c4 c5 c6 c7 c8 c9
  simp [results, Try.results36, go_sem, h2, h3, c0, c1, c2, c3, c4, c5, c6, c7, c8, c9]
/-- The packet, the result, the segment, each in a block of its own; whatever is in the last. -/
structure RF (w0 : World) (g : Nat) (pc : Array Value) (w : World) : Prop where
  p : Blk w w0.heap.size 36 pc
  res : Blk w (w0.heap.size + 1) 39 #[.int .i64 0, .int .i64 0, .int .u32 0, .int .u32 0, .int .i64 0, .int .i64 0, .int .i64 0, .string ⟨#[]⟩, .string ⟨#[]⟩, .bool false]
  any : ∃ c0 c1 c2 c3 c4 c5 c6 c7 c8 c9, Blk w g 39 #[c0, c1, c2, c3, c4, c5, c6, c7, c8, c9]
  below : Below w0.heap.size w0 w
  lt : w0.heap.size + 1 < g
theorem RF.on {w0 w w' : World} {g : Nat} {pc : Array Value} (h : RF w0 g pc w) (hq : Below w.heap.size w w') : RF w0 g pc w' := by
  obtain ⟨hp, hr, ⟨c0, c1, c2, c3, c4, c5, c6, c7, c8, c9, hg⟩, hb, hl⟩ := h
  exact ⟨hp.same (hq.block _ hp.lt), hr.same (hq.block _ hr.lt), ⟨_, _, _, _, _, _, _, _, _, _, hg.same (hq.block _ hg.lt)⟩, hb.trans (hq.mono (by have := hp.lt; omega)), hl⟩
theorem RF.store {w0 w : World} {g : Nat} {pc : Array Value} (h : RF w0 g pc w) (x0 x1 x2 x3 x4 x5 x6 x7 x8 x9 : Value) : RF w0 g pc ((((((((((w.setCell ⟨g, 0, none⟩ x0).setCell ⟨g, 1, none⟩ x1).setCell ⟨g, 2, none⟩ x2).setCell ⟨g, 3, none⟩ x3).setCell ⟨g, 4, none⟩ x4).setCell ⟨g, 5, none⟩ x5).setCell ⟨g, 6, none⟩ x6).setCell ⟨g, 7, none⟩ x7).setCell ⟨g, 8, none⟩ x8).setCell ⟨g, 9, none⟩ x9) := by
  obtain ⟨hp, hr, ⟨c0, c1, c2, c3, c4, c5, c6, c7, c8, c9, hg⟩, hb, hl⟩ := h
  exact ⟨other10 hp (by omega) x0 x1 x2 x3 x4 x5 x6 x7 x8 x9, other10 hr (by omega) x0 x1 x2 x3 x4 x5 x6 x7 x8 x9, ⟨_, _, _, _, _, _, _, _, _, _, set10 hg x0 x1 x2 x3 x4 x5 x6 x7 x8 x9⟩, below10 hb (by omega) x0 x1 x2 x3 x4 x5 x6 x7 x8 x9, hl⟩
theorem RF.cells {w0 w : World} {g : Nat} {v : Int} {src dst : ByteArray} {proto hops cls id flags off label : Int} {opt body : ByteArray} (h : RF w0 g #[.int .i64 v, .string src, .string dst, .int .i64 proto, .int .i64 hops, .int .i64 cls, .int .i64 id, .int .i64 flags, .int .i64 off, .int .i64 label, .string opt, .string body] w) : (w.cell? ⟨w0.heap.size, 0, none⟩ = some (.int .i64 v) ∧ w.cell? ⟨w0.heap.size, 1, none⟩ = some (.string src) ∧ w.cell? ⟨w0.heap.size, 2, none⟩ = some (.string dst) ∧ w.cell? ⟨w0.heap.size, 3, none⟩ = some (.int .i64 proto) ∧ w.cell? ⟨w0.heap.size, 4, none⟩ = some (.int .i64 hops) ∧ w.cell? ⟨w0.heap.size, 5, none⟩ = some (.int .i64 cls) ∧ w.cell? ⟨w0.heap.size, 6, none⟩ = some (.int .i64 id) ∧ w.cell? ⟨w0.heap.size, 7, none⟩ = some (.int .i64 flags) ∧ w.cell? ⟨w0.heap.size, 8, none⟩ = some (.int .i64 off) ∧ w.cell? ⟨w0.heap.size, 9, none⟩ = some (.int .i64 label) ∧ w.cell? ⟨w0.heap.size, 10, none⟩ = some (.string opt) ∧ w.cell? ⟨w0.heap.size, 11, none⟩ = some (.string body)) ∧ (w.cell? ⟨g, 0, none⟩ = some (cellF w g 0) ∧ w.cell? ⟨g, 1, none⟩ = some (cellF w g 1) ∧ w.cell? ⟨g, 2, none⟩ = some (cellF w g 2) ∧ w.cell? ⟨g, 3, none⟩ = some (cellF w g 3) ∧ w.cell? ⟨g, 4, none⟩ = some (cellF w g 4) ∧ w.cell? ⟨g, 5, none⟩ = some (cellF w g 5) ∧ w.cell? ⟨g, 6, none⟩ = some (cellF w g 6) ∧ w.cell? ⟨g, 7, none⟩ = some (cellF w g 7) ∧ w.cell? ⟨g, 8, none⟩ = some (cellF w g 8) ∧ w.cell? ⟨g, 9, none⟩ = some (cellF w g 9) ∧ (∀ i, w.frozen? ⟨g, i, none⟩ = false)) := by
  obtain ⟨hp, hr, ⟨c0, c1, c2, c3, c4, c5, c6, c7, c8, c9, hg⟩, hb, hl⟩ := h
  refine ⟨⟨hp.cell 0, hp.cell 1, hp.cell 2, hp.cell 3, hp.cell 4, hp.cell 5, hp.cell 6, hp.cell 7, hp.cell 8, hp.cell 9, hp.cell 10, hp.cell 11⟩, ?_, ?_, ?_, ?_, ?_, ?_, ?_, ?_, ?_, ?_, hg.frozen⟩ <;> (unfold cellF; rw [hg.cell]; rfl)
theorem rf_on {w0 w1 w' : World} {g : Nat} {v : Int} {src dst : ByteArray} {proto hops cls id flags off label : Int} {opt body : ByteArray} (h : ((w1.cell? ⟨w0.heap.size, 0, none⟩ = some (.int .i64 v) ∧ w1.cell? ⟨w0.heap.size, 1, none⟩ = some (.string src) ∧ w1.cell? ⟨w0.heap.size, 2, none⟩ = some (.string dst) ∧ w1.cell? ⟨w0.heap.size, 3, none⟩ = some (.int .i64 proto) ∧ w1.cell? ⟨w0.heap.size, 4, none⟩ = some (.int .i64 hops) ∧ w1.cell? ⟨w0.heap.size, 5, none⟩ = some (.int .i64 cls) ∧ w1.cell? ⟨w0.heap.size, 6, none⟩ = some (.int .i64 id) ∧ w1.cell? ⟨w0.heap.size, 7, none⟩ = some (.int .i64 flags) ∧ w1.cell? ⟨w0.heap.size, 8, none⟩ = some (.int .i64 off) ∧ w1.cell? ⟨w0.heap.size, 9, none⟩ = some (.int .i64 label) ∧ w1.cell? ⟨w0.heap.size, 10, none⟩ = some (.string opt) ∧ w1.cell? ⟨w0.heap.size, 11, none⟩ = some (.string body)) ∧ (w1.cell? ⟨g, 0, none⟩ = some (cellF w1 g 0) ∧ w1.cell? ⟨g, 1, none⟩ = some (cellF w1 g 1) ∧ w1.cell? ⟨g, 2, none⟩ = some (cellF w1 g 2) ∧ w1.cell? ⟨g, 3, none⟩ = some (cellF w1 g 3) ∧ w1.cell? ⟨g, 4, none⟩ = some (cellF w1 g 4) ∧ w1.cell? ⟨g, 5, none⟩ = some (cellF w1 g 5) ∧ w1.cell? ⟨g, 6, none⟩ = some (cellF w1 g 6) ∧ w1.cell? ⟨g, 7, none⟩ = some (cellF w1 g 7) ∧ w1.cell? ⟨g, 8, none⟩ = some (cellF w1 g 8) ∧ w1.cell? ⟨g, 9, none⟩ = some (cellF w1 g 9) ∧ (∀ i, w1.frozen? ⟨g, i, none⟩ = false))) ∧ RF w0 g #[.int .i64 v, .string src, .string dst, .int .i64 proto, .int .i64 hops, .int .i64 cls, .int .i64 id, .int .i64 flags, .int .i64 off, .int .i64 label, .string opt, .string body] w1) (hq : Below w1.heap.size w1 w') : ((w'.cell? ⟨w0.heap.size, 0, none⟩ = some (.int .i64 v) ∧ w'.cell? ⟨w0.heap.size, 1, none⟩ = some (.string src) ∧ w'.cell? ⟨w0.heap.size, 2, none⟩ = some (.string dst) ∧ w'.cell? ⟨w0.heap.size, 3, none⟩ = some (.int .i64 proto) ∧ w'.cell? ⟨w0.heap.size, 4, none⟩ = some (.int .i64 hops) ∧ w'.cell? ⟨w0.heap.size, 5, none⟩ = some (.int .i64 cls) ∧ w'.cell? ⟨w0.heap.size, 6, none⟩ = some (.int .i64 id) ∧ w'.cell? ⟨w0.heap.size, 7, none⟩ = some (.int .i64 flags) ∧ w'.cell? ⟨w0.heap.size, 8, none⟩ = some (.int .i64 off) ∧ w'.cell? ⟨w0.heap.size, 9, none⟩ = some (.int .i64 label) ∧ w'.cell? ⟨w0.heap.size, 10, none⟩ = some (.string opt) ∧ w'.cell? ⟨w0.heap.size, 11, none⟩ = some (.string body)) ∧ (w'.cell? ⟨g, 0, none⟩ = some (cellF w' g 0) ∧ w'.cell? ⟨g, 1, none⟩ = some (cellF w' g 1) ∧ w'.cell? ⟨g, 2, none⟩ = some (cellF w' g 2) ∧ w'.cell? ⟨g, 3, none⟩ = some (cellF w' g 3) ∧ w'.cell? ⟨g, 4, none⟩ = some (cellF w' g 4) ∧ w'.cell? ⟨g, 5, none⟩ = some (cellF w' g 5) ∧ w'.cell? ⟨g, 6, none⟩ = some (cellF w' g 6) ∧ w'.cell? ⟨g, 7, none⟩ = some (cellF w' g 7) ∧ w'.cell? ⟨g, 8, none⟩ = some (cellF w' g 8) ∧ w'.cell? ⟨g, 9, none⟩ = some (cellF w' g 9) ∧ (∀ i, w'.frozen? ⟨g, i, none⟩ = false))) ∧ RF w0 g #[.int .i64 v, .string src, .string dst, .int .i64 proto, .int .i64 hops, .int .i64 cls, .int .i64 id, .int .i64 flags, .int .i64 off, .int .i64 label, .string opt, .string body] w' := ⟨(h.2.on hq).cells, h.2.on hq⟩
theorem rf_here {w0 w1 : World} {g : Nat} {v : Int} {src dst : ByteArray} {proto hops cls id flags off label : Int} {opt body : ByteArray} (h : RF w0 g #[.int .i64 v, .string src, .string dst, .int .i64 proto, .int .i64 hops, .int .i64 cls, .int .i64 id, .int .i64 flags, .int .i64 off, .int .i64 label, .string opt, .string body] w1) : ((w1.drew.cell? ⟨w0.heap.size, 0, none⟩ = some (.int .i64 v) ∧ w1.drew.cell? ⟨w0.heap.size, 1, none⟩ = some (.string src) ∧ w1.drew.cell? ⟨w0.heap.size, 2, none⟩ = some (.string dst) ∧ w1.drew.cell? ⟨w0.heap.size, 3, none⟩ = some (.int .i64 proto) ∧ w1.drew.cell? ⟨w0.heap.size, 4, none⟩ = some (.int .i64 hops) ∧ w1.drew.cell? ⟨w0.heap.size, 5, none⟩ = some (.int .i64 cls) ∧ w1.drew.cell? ⟨w0.heap.size, 6, none⟩ = some (.int .i64 id) ∧ w1.drew.cell? ⟨w0.heap.size, 7, none⟩ = some (.int .i64 flags) ∧ w1.drew.cell? ⟨w0.heap.size, 8, none⟩ = some (.int .i64 off) ∧ w1.drew.cell? ⟨w0.heap.size, 9, none⟩ = some (.int .i64 label) ∧ w1.drew.cell? ⟨w0.heap.size, 10, none⟩ = some (.string opt) ∧ w1.drew.cell? ⟨w0.heap.size, 11, none⟩ = some (.string body)) ∧ (w1.drew.cell? ⟨g, 0, none⟩ = some (cellF w1.drew g 0) ∧ w1.drew.cell? ⟨g, 1, none⟩ = some (cellF w1.drew g 1) ∧ w1.drew.cell? ⟨g, 2, none⟩ = some (cellF w1.drew g 2) ∧ w1.drew.cell? ⟨g, 3, none⟩ = some (cellF w1.drew g 3) ∧ w1.drew.cell? ⟨g, 4, none⟩ = some (cellF w1.drew g 4) ∧ w1.drew.cell? ⟨g, 5, none⟩ = some (cellF w1.drew g 5) ∧ w1.drew.cell? ⟨g, 6, none⟩ = some (cellF w1.drew g 6) ∧ w1.drew.cell? ⟨g, 7, none⟩ = some (cellF w1.drew g 7) ∧ w1.drew.cell? ⟨g, 8, none⟩ = some (cellF w1.drew g 8) ∧ w1.drew.cell? ⟨g, 9, none⟩ = some (cellF w1.drew g 9) ∧ (∀ i, w1.drew.frozen? ⟨g, i, none⟩ = false))) ∧ RF w0 g #[.int .i64 v, .string src, .string dst, .int .i64 proto, .int .i64 hops, .int .i64 cls, .int .i64 id, .int .i64 flags, .int .i64 off, .int .i64 label, .string opt, .string body] w1.drew := ⟨(h.on (Below.drew (Below.refl _ _))).cells, h.on (Below.drew (Below.refl _ _))⟩
theorem rf_store {w0 w1 : World} {g : Nat} {v : Int} {src dst : ByteArray} {proto hops cls id flags off label : Int} {opt body : ByteArray} (h : ((w1.cell? ⟨w0.heap.size, 0, none⟩ = some (.int .i64 v) ∧ w1.cell? ⟨w0.heap.size, 1, none⟩ = some (.string src) ∧ w1.cell? ⟨w0.heap.size, 2, none⟩ = some (.string dst) ∧ w1.cell? ⟨w0.heap.size, 3, none⟩ = some (.int .i64 proto) ∧ w1.cell? ⟨w0.heap.size, 4, none⟩ = some (.int .i64 hops) ∧ w1.cell? ⟨w0.heap.size, 5, none⟩ = some (.int .i64 cls) ∧ w1.cell? ⟨w0.heap.size, 6, none⟩ = some (.int .i64 id) ∧ w1.cell? ⟨w0.heap.size, 7, none⟩ = some (.int .i64 flags) ∧ w1.cell? ⟨w0.heap.size, 8, none⟩ = some (.int .i64 off) ∧ w1.cell? ⟨w0.heap.size, 9, none⟩ = some (.int .i64 label) ∧ w1.cell? ⟨w0.heap.size, 10, none⟩ = some (.string opt) ∧ w1.cell? ⟨w0.heap.size, 11, none⟩ = some (.string body)) ∧ (w1.cell? ⟨g, 0, none⟩ = some (cellF w1 g 0) ∧ w1.cell? ⟨g, 1, none⟩ = some (cellF w1 g 1) ∧ w1.cell? ⟨g, 2, none⟩ = some (cellF w1 g 2) ∧ w1.cell? ⟨g, 3, none⟩ = some (cellF w1 g 3) ∧ w1.cell? ⟨g, 4, none⟩ = some (cellF w1 g 4) ∧ w1.cell? ⟨g, 5, none⟩ = some (cellF w1 g 5) ∧ w1.cell? ⟨g, 6, none⟩ = some (cellF w1 g 6) ∧ w1.cell? ⟨g, 7, none⟩ = some (cellF w1 g 7) ∧ w1.cell? ⟨g, 8, none⟩ = some (cellF w1 g 8) ∧ w1.cell? ⟨g, 9, none⟩ = some (cellF w1 g 9) ∧ (∀ i, w1.frozen? ⟨g, i, none⟩ = false))) ∧ RF w0 g #[.int .i64 v, .string src, .string dst, .int .i64 proto, .int .i64 hops, .int .i64 cls, .int .i64 id, .int .i64 flags, .int .i64 off, .int .i64 label, .string opt, .string body] w1) (x0 x1 x2 x3 x4 x5 x6 x7 x8 x9 : Value) : ((((((((((((w1.setCell ⟨g, 0, none⟩ x0).setCell ⟨g, 1, none⟩ x1).setCell ⟨g, 2, none⟩ x2).setCell ⟨g, 3, none⟩ x3).setCell ⟨g, 4, none⟩ x4).setCell ⟨g, 5, none⟩ x5).setCell ⟨g, 6, none⟩ x6).setCell ⟨g, 7, none⟩ x7).setCell ⟨g, 8, none⟩ x8).setCell ⟨g, 9, none⟩ x9).cell? ⟨w0.heap.size, 0, none⟩ = some (.int .i64 v) ∧ ((((((((((w1.setCell ⟨g, 0, none⟩ x0).setCell ⟨g, 1, none⟩ x1).setCell ⟨g, 2, none⟩ x2).setCell ⟨g, 3, none⟩ x3).setCell ⟨g, 4, none⟩ x4).setCell ⟨g, 5, none⟩ x5).setCell ⟨g, 6, none⟩ x6).setCell ⟨g, 7, none⟩ x7).setCell ⟨g, 8, none⟩ x8).setCell ⟨g, 9, none⟩ x9).cell? ⟨w0.heap.size, 1, none⟩ = some (.string src) ∧ ((((((((((w1.setCell ⟨g, 0, none⟩ x0).setCell ⟨g, 1, none⟩ x1).setCell ⟨g, 2, none⟩ x2).setCell ⟨g, 3, none⟩ x3).setCell ⟨g, 4, none⟩ x4).setCell ⟨g, 5, none⟩ x5).setCell ⟨g, 6, none⟩ x6).setCell ⟨g, 7, none⟩ x7).setCell ⟨g, 8, none⟩ x8).setCell ⟨g, 9, none⟩ x9).cell? ⟨w0.heap.size, 2, none⟩ = some (.string dst) ∧ ((((((((((w1.setCell ⟨g, 0, none⟩ x0).setCell ⟨g, 1, none⟩ x1).setCell ⟨g, 2, none⟩ x2).setCell ⟨g, 3, none⟩ x3).setCell ⟨g, 4, none⟩ x4).setCell ⟨g, 5, none⟩ x5).setCell ⟨g, 6, none⟩ x6).setCell ⟨g, 7, none⟩ x7).setCell ⟨g, 8, none⟩ x8).setCell ⟨g, 9, none⟩ x9).cell? ⟨w0.heap.size, 3, none⟩ = some (.int .i64 proto) ∧ ((((((((((w1.setCell ⟨g, 0, none⟩ x0).setCell ⟨g, 1, none⟩ x1).setCell ⟨g, 2, none⟩ x2).setCell ⟨g, 3, none⟩ x3).setCell ⟨g, 4, none⟩ x4).setCell ⟨g, 5, none⟩ x5).setCell ⟨g, 6, none⟩ x6).setCell ⟨g, 7, none⟩ x7).setCell ⟨g, 8, none⟩ x8).setCell ⟨g, 9, none⟩ x9).cell? ⟨w0.heap.size, 4, none⟩ = some (.int .i64 hops) ∧ ((((((((((w1.setCell ⟨g, 0, none⟩ x0).setCell ⟨g, 1, none⟩ x1).setCell ⟨g, 2, none⟩ x2).setCell ⟨g, 3, none⟩ x3).setCell ⟨g, 4, none⟩ x4).setCell ⟨g, 5, none⟩ x5).setCell ⟨g, 6, none⟩ x6).setCell ⟨g, 7, none⟩ x7).setCell ⟨g, 8, none⟩ x8).setCell ⟨g, 9, none⟩ x9).cell? ⟨w0.heap.size, 5, none⟩ = some (.int .i64 cls) ∧ ((((((((((w1.setCell ⟨g, 0, none⟩ x0).setCell ⟨g, 1, none⟩ x1).setCell ⟨g, 2, none⟩ x2).setCell ⟨g, 3, none⟩ x3).setCell ⟨g, 4, none⟩ x4).setCell ⟨g, 5, none⟩ x5).setCell ⟨g, 6, none⟩ x6).setCell ⟨g, 7, none⟩ x7).setCell ⟨g, 8, none⟩ x8).setCell ⟨g, 9, none⟩ x9).cell? ⟨w0.heap.size, 6, none⟩ = some (.int .i64 id) ∧ ((((((((((w1.setCell ⟨g, 0, none⟩ x0).setCell ⟨g, 1, none⟩ x1).setCell ⟨g, 2, none⟩ x2).setCell ⟨g, 3, none⟩ x3).setCell ⟨g, 4, none⟩ x4).setCell ⟨g, 5, none⟩ x5).setCell ⟨g, 6, none⟩ x6).setCell ⟨g, 7, none⟩ x7).setCell ⟨g, 8, none⟩ x8).setCell ⟨g, 9, none⟩ x9).cell? ⟨w0.heap.size, 7, none⟩ = some (.int .i64 flags) ∧ ((((((((((w1.setCell ⟨g, 0, none⟩ x0).setCell ⟨g, 1, none⟩ x1).setCell ⟨g, 2, none⟩ x2).setCell ⟨g, 3, none⟩ x3).setCell ⟨g, 4, none⟩ x4).setCell ⟨g, 5, none⟩ x5).setCell ⟨g, 6, none⟩ x6).setCell ⟨g, 7, none⟩ x7).setCell ⟨g, 8, none⟩ x8).setCell ⟨g, 9, none⟩ x9).cell? ⟨w0.heap.size, 8, none⟩ = some (.int .i64 off) ∧ ((((((((((w1.setCell ⟨g, 0, none⟩ x0).setCell ⟨g, 1, none⟩ x1).setCell ⟨g, 2, none⟩ x2).setCell ⟨g, 3, none⟩ x3).setCell ⟨g, 4, none⟩ x4).setCell ⟨g, 5, none⟩ x5).setCell ⟨g, 6, none⟩ x6).setCell ⟨g, 7, none⟩ x7).setCell ⟨g, 8, none⟩ x8).setCell ⟨g, 9, none⟩ x9).cell? ⟨w0.heap.size, 9, none⟩ = some (.int .i64 label) ∧ ((((((((((w1.setCell ⟨g, 0, none⟩ x0).setCell ⟨g, 1, none⟩ x1).setCell ⟨g, 2, none⟩ x2).setCell ⟨g, 3, none⟩ x3).setCell ⟨g, 4, none⟩ x4).setCell ⟨g, 5, none⟩ x5).setCell ⟨g, 6, none⟩ x6).setCell ⟨g, 7, none⟩ x7).setCell ⟨g, 8, none⟩ x8).setCell ⟨g, 9, none⟩ x9).cell? ⟨w0.heap.size, 10, none⟩ = some (.string opt) ∧ ((((((((((w1.setCell ⟨g, 0, none⟩ x0).setCell ⟨g, 1, none⟩ x1).setCell ⟨g, 2, none⟩ x2).setCell ⟨g, 3, none⟩ x3).setCell ⟨g, 4, none⟩ x4).setCell ⟨g, 5, none⟩ x5).setCell ⟨g, 6, none⟩ x6).setCell ⟨g, 7, none⟩ x7).setCell ⟨g, 8, none⟩ x8).setCell ⟨g, 9, none⟩ x9).cell? ⟨w0.heap.size, 11, none⟩ = some (.string body)) ∧ (((((((((((w1.setCell ⟨g, 0, none⟩ x0).setCell ⟨g, 1, none⟩ x1).setCell ⟨g, 2, none⟩ x2).setCell ⟨g, 3, none⟩ x3).setCell ⟨g, 4, none⟩ x4).setCell ⟨g, 5, none⟩ x5).setCell ⟨g, 6, none⟩ x6).setCell ⟨g, 7, none⟩ x7).setCell ⟨g, 8, none⟩ x8).setCell ⟨g, 9, none⟩ x9).cell? ⟨g, 0, none⟩ = some (cellF ((((((((((w1.setCell ⟨g, 0, none⟩ x0).setCell ⟨g, 1, none⟩ x1).setCell ⟨g, 2, none⟩ x2).setCell ⟨g, 3, none⟩ x3).setCell ⟨g, 4, none⟩ x4).setCell ⟨g, 5, none⟩ x5).setCell ⟨g, 6, none⟩ x6).setCell ⟨g, 7, none⟩ x7).setCell ⟨g, 8, none⟩ x8).setCell ⟨g, 9, none⟩ x9) g 0) ∧ ((((((((((w1.setCell ⟨g, 0, none⟩ x0).setCell ⟨g, 1, none⟩ x1).setCell ⟨g, 2, none⟩ x2).setCell ⟨g, 3, none⟩ x3).setCell ⟨g, 4, none⟩ x4).setCell ⟨g, 5, none⟩ x5).setCell ⟨g, 6, none⟩ x6).setCell ⟨g, 7, none⟩ x7).setCell ⟨g, 8, none⟩ x8).setCell ⟨g, 9, none⟩ x9).cell? ⟨g, 1, none⟩ = some (cellF ((((((((((w1.setCell ⟨g, 0, none⟩ x0).setCell ⟨g, 1, none⟩ x1).setCell ⟨g, 2, none⟩ x2).setCell ⟨g, 3, none⟩ x3).setCell ⟨g, 4, none⟩ x4).setCell ⟨g, 5, none⟩ x5).setCell ⟨g, 6, none⟩ x6).setCell ⟨g, 7, none⟩ x7).setCell ⟨g, 8, none⟩ x8).setCell ⟨g, 9, none⟩ x9) g 1) ∧ ((((((((((w1.setCell ⟨g, 0, none⟩ x0).setCell ⟨g, 1, none⟩ x1).setCell ⟨g, 2, none⟩ x2).setCell ⟨g, 3, none⟩ x3).setCell ⟨g, 4, none⟩ x4).setCell ⟨g, 5, none⟩ x5).setCell ⟨g, 6, none⟩ x6).setCell ⟨g, 7, none⟩ x7).setCell ⟨g, 8, none⟩ x8).setCell ⟨g, 9, none⟩ x9).cell? ⟨g, 2, none⟩ = some (cellF ((((((((((w1.setCell ⟨g, 0, none⟩ x0).setCell ⟨g, 1, none⟩ x1).setCell ⟨g, 2, none⟩ x2).setCell ⟨g, 3, none⟩ x3).setCell ⟨g, 4, none⟩ x4).setCell ⟨g, 5, none⟩ x5).setCell ⟨g, 6, none⟩ x6).setCell ⟨g, 7, none⟩ x7).setCell ⟨g, 8, none⟩ x8).setCell ⟨g, 9, none⟩ x9) g 2) ∧ ((((((((((w1.setCell ⟨g, 0, none⟩ x0).setCell ⟨g, 1, none⟩ x1).setCell ⟨g, 2, none⟩ x2).setCell ⟨g, 3, none⟩ x3).setCell ⟨g, 4, none⟩ x4).setCell ⟨g, 5, none⟩ x5).setCell ⟨g, 6, none⟩ x6).setCell ⟨g, 7, none⟩ x7).setCell ⟨g, 8, none⟩ x8).setCell ⟨g, 9, none⟩ x9).cell? ⟨g, 3, none⟩ = some (cellF ((((((((((w1.setCell ⟨g, 0, none⟩ x0).setCell ⟨g, 1, none⟩ x1).setCell ⟨g, 2, none⟩ x2).setCell ⟨g, 3, none⟩ x3).setCell ⟨g, 4, none⟩ x4).setCell ⟨g, 5, none⟩ x5).setCell ⟨g, 6, none⟩ x6).setCell ⟨g, 7, none⟩ x7).setCell ⟨g, 8, none⟩ x8).setCell ⟨g, 9, none⟩ x9) g 3) ∧ ((((((((((w1.setCell ⟨g, 0, none⟩ x0).setCell ⟨g, 1, none⟩ x1).setCell ⟨g, 2, none⟩ x2).setCell ⟨g, 3, none⟩ x3).setCell ⟨g, 4, none⟩ x4).setCell ⟨g, 5, none⟩ x5).setCell ⟨g, 6, none⟩ x6).setCell ⟨g, 7, none⟩ x7).setCell ⟨g, 8, none⟩ x8).setCell ⟨g, 9, none⟩ x9).cell? ⟨g, 4, none⟩ = some (cellF ((((((((((w1.setCell ⟨g, 0, none⟩ x0).setCell ⟨g, 1, none⟩ x1).setCell ⟨g, 2, none⟩ x2).setCell ⟨g, 3, none⟩ x3).setCell ⟨g, 4, none⟩ x4).setCell ⟨g, 5, none⟩ x5).setCell ⟨g, 6, none⟩ x6).setCell ⟨g, 7, none⟩ x7).setCell ⟨g, 8, none⟩ x8).setCell ⟨g, 9, none⟩ x9) g 4) ∧ ((((((((((w1.setCell ⟨g, 0, none⟩ x0).setCell ⟨g, 1, none⟩ x1).setCell ⟨g, 2, none⟩ x2).setCell ⟨g, 3, none⟩ x3).setCell ⟨g, 4, none⟩ x4).setCell ⟨g, 5, none⟩ x5).setCell ⟨g, 6, none⟩ x6).setCell ⟨g, 7, none⟩ x7).setCell ⟨g, 8, none⟩ x8).setCell ⟨g, 9, none⟩ x9).cell? ⟨g, 5, none⟩ = some (cellF ((((((((((w1.setCell ⟨g, 0, none⟩ x0).setCell ⟨g, 1, none⟩ x1).setCell ⟨g, 2, none⟩ x2).setCell ⟨g, 3, none⟩ x3).setCell ⟨g, 4, none⟩ x4).setCell ⟨g, 5, none⟩ x5).setCell ⟨g, 6, none⟩ x6).setCell ⟨g, 7, none⟩ x7).setCell ⟨g, 8, none⟩ x8).setCell ⟨g, 9, none⟩ x9) g 5) ∧ ((((((((((w1.setCell ⟨g, 0, none⟩ x0).setCell ⟨g, 1, none⟩ x1).setCell ⟨g, 2, none⟩ x2).setCell ⟨g, 3, none⟩ x3).setCell ⟨g, 4, none⟩ x4).setCell ⟨g, 5, none⟩ x5).setCell ⟨g, 6, none⟩ x6).setCell ⟨g, 7, none⟩ x7).setCell ⟨g, 8, none⟩ x8).setCell ⟨g, 9, none⟩ x9).cell? ⟨g, 6, none⟩ = some (cellF ((((((((((w1.setCell ⟨g, 0, none⟩ x0).setCell ⟨g, 1, none⟩ x1).setCell ⟨g, 2, none⟩ x2).setCell ⟨g, 3, none⟩ x3).setCell ⟨g, 4, none⟩ x4).setCell ⟨g, 5, none⟩ x5).setCell ⟨g, 6, none⟩ x6).setCell ⟨g, 7, none⟩ x7).setCell ⟨g, 8, none⟩ x8).setCell ⟨g, 9, none⟩ x9) g 6) ∧ ((((((((((w1.setCell ⟨g, 0, none⟩ x0).setCell ⟨g, 1, none⟩ x1).setCell ⟨g, 2, none⟩ x2).setCell ⟨g, 3, none⟩ x3).setCell ⟨g, 4, none⟩ x4).setCell ⟨g, 5, none⟩ x5).setCell ⟨g, 6, none⟩ x6).setCell ⟨g, 7, none⟩ x7).setCell ⟨g, 8, none⟩ x8).setCell ⟨g, 9, none⟩ x9).cell? ⟨g, 7, none⟩ = some (cellF ((((((((((w1.setCell ⟨g, 0, none⟩ x0).setCell ⟨g, 1, none⟩ x1).setCell ⟨g, 2, none⟩ x2).setCell ⟨g, 3, none⟩ x3).setCell ⟨g, 4, none⟩ x4).setCell ⟨g, 5, none⟩ x5).setCell ⟨g, 6, none⟩ x6).setCell ⟨g, 7, none⟩ x7).setCell ⟨g, 8, none⟩ x8).setCell ⟨g, 9, none⟩ x9) g 7) ∧ ((((((((((w1.setCell ⟨g, 0, none⟩ x0).setCell ⟨g, 1, none⟩ x1).setCell ⟨g, 2, none⟩ x2).setCell ⟨g, 3, none⟩ x3).setCell ⟨g, 4, none⟩ x4).setCell ⟨g, 5, none⟩ x5).setCell ⟨g, 6, none⟩ x6).setCell ⟨g, 7, none⟩ x7).setCell ⟨g, 8, none⟩ x8).setCell ⟨g, 9, none⟩ x9).cell? ⟨g, 8, none⟩ = some (cellF ((((((((((w1.setCell ⟨g, 0, none⟩ x0).setCell ⟨g, 1, none⟩ x1).setCell ⟨g, 2, none⟩ x2).setCell ⟨g, 3, none⟩ x3).setCell ⟨g, 4, none⟩ x4).setCell ⟨g, 5, none⟩ x5).setCell ⟨g, 6, none⟩ x6).setCell ⟨g, 7, none⟩ x7).setCell ⟨g, 8, none⟩ x8).setCell ⟨g, 9, none⟩ x9) g 8) ∧ ((((((((((w1.setCell ⟨g, 0, none⟩ x0).setCell ⟨g, 1, none⟩ x1).setCell ⟨g, 2, none⟩ x2).setCell ⟨g, 3, none⟩ x3).setCell ⟨g, 4, none⟩ x4).setCell ⟨g, 5, none⟩ x5).setCell ⟨g, 6, none⟩ x6).setCell ⟨g, 7, none⟩ x7).setCell ⟨g, 8, none⟩ x8).setCell ⟨g, 9, none⟩ x9).cell? ⟨g, 9, none⟩ = some (cellF ((((((((((w1.setCell ⟨g, 0, none⟩ x0).setCell ⟨g, 1, none⟩ x1).setCell ⟨g, 2, none⟩ x2).setCell ⟨g, 3, none⟩ x3).setCell ⟨g, 4, none⟩ x4).setCell ⟨g, 5, none⟩ x5).setCell ⟨g, 6, none⟩ x6).setCell ⟨g, 7, none⟩ x7).setCell ⟨g, 8, none⟩ x8).setCell ⟨g, 9, none⟩ x9) g 9) ∧ (∀ i, ((((((((((w1.setCell ⟨g, 0, none⟩ x0).setCell ⟨g, 1, none⟩ x1).setCell ⟨g, 2, none⟩ x2).setCell ⟨g, 3, none⟩ x3).setCell ⟨g, 4, none⟩ x4).setCell ⟨g, 5, none⟩ x5).setCell ⟨g, 6, none⟩ x6).setCell ⟨g, 7, none⟩ x7).setCell ⟨g, 8, none⟩ x8).setCell ⟨g, 9, none⟩ x9).frozen? ⟨g, i, none⟩ = false))) ∧ RF w0 g #[.int .i64 v, .string src, .string dst, .int .i64 proto, .int .i64 hops, .int .i64 cls, .int .i64 id, .int .i64 flags, .int .i64 off, .int .i64 label, .string opt, .string body] ((((((((((w1.setCell ⟨g, 0, none⟩ x0).setCell ⟨g, 1, none⟩ x1).setCell ⟨g, 2, none⟩ x2).setCell ⟨g, 3, none⟩ x3).setCell ⟨g, 4, none⟩ x4).setCell ⟨g, 5, none⟩ x5).setCell ⟨g, 6, none⟩ x6).setCell ⟨g, 7, none⟩ x7).setCell ⟨g, 8, none⟩ x8).setCell ⟨g, 9, none⟩ x9) := ⟨(h.2.store x0 x1 x2 x3 x4 x5 x6 x7 x8 x9).cells, h.2.store x0 x1 x2 x3 x4 x5 x6 x7 x8 x9⟩
/-- .. and with what is in the last. -/
structure RG (w0 : World) (g : Nat) (pc gc : Array Value) (w : World) : Prop where
  p : Blk w w0.heap.size 36 pc
  res : Blk w (w0.heap.size + 1) 39 #[.int .i64 0, .int .i64 0, .int .u32 0, .int .u32 0, .int .i64 0, .int .i64 0, .int .i64 0, .string ⟨#[]⟩, .string ⟨#[]⟩, .bool false]
  gb : Blk w g 39 gc
  below : Below w0.heap.size w0 w
  lt : w0.heap.size + 1 < g
theorem RG.on {w0 w w' : World} {g : Nat} {pc gc : Array Value} (h : RG w0 g pc gc w) (hq : Below w.heap.size w w') : RG w0 g pc gc w' :=
  ⟨h.p.same (hq.block _ h.p.lt), h.res.same (hq.block _ h.res.lt), h.gb.same (hq.block _ h.gb.lt), h.below.trans (hq.mono (by have := h.p.lt; omega)), h.lt⟩
theorem RF.fill {w0 w : World} {g : Nat} {pc : Array Value} (h : RF w0 g pc w) (x0 x1 x2 x3 x4 x5 x6 x7 x8 x9 : Value) : RG w0 g pc #[x0, x1, x2, x3, x4, x5, x6, x7, x8, x9] ((((((((((w.setCell ⟨g, 0, none⟩ x0).setCell ⟨g, 1, none⟩ x1).setCell ⟨g, 2, none⟩ x2).setCell ⟨g, 3, none⟩ x3).setCell ⟨g, 4, none⟩ x4).setCell ⟨g, 5, none⟩ x5).setCell ⟨g, 6, none⟩ x6).setCell ⟨g, 7, none⟩ x7).setCell ⟨g, 8, none⟩ x8).setCell ⟨g, 9, none⟩ x9) := by
  obtain ⟨hp, hr, ⟨c0, c1, c2, c3, c4, c5, c6, c7, c8, c9, hg⟩, hb, hl⟩ := h
  exact ⟨other10 hp (by omega) x0 x1 x2 x3 x4 x5 x6 x7 x8 x9, other10 hr (by omega) x0 x1 x2 x3 x4 x5 x6 x7 x8 x9, set10 hg x0 x1 x2 x3 x4 x5 x6 x7 x8 x9, below10 hb (by omega) x0 x1 x2 x3 x4 x5 x6 x7 x8 x9, hl⟩
theorem rg_cells {w0 w : World} {g : Nat} {v : Int} {src dst : ByteArray} {proto hops cls id flags off label : Int} {opt body : ByteArray} {y0 y1 y2 y3 y4 y5 y6 y7 y8 : Value} {k : Bool} (h : RG w0 g #[.int .i64 v, .string src, .string dst, .int .i64 proto, .int .i64 hops, .int .i64 cls, .int .i64 id, .int .i64 flags, .int .i64 off, .int .i64 label, .string opt, .string body] #[y0, y1, y2, y3, y4, y5, y6, y7, y8, .bool k] w) : (w.cell? ⟨w0.heap.size, 0, none⟩ = some (.int .i64 v) ∧ w.cell? ⟨w0.heap.size, 1, none⟩ = some (.string src) ∧ w.cell? ⟨w0.heap.size, 2, none⟩ = some (.string dst) ∧ w.cell? ⟨w0.heap.size, 3, none⟩ = some (.int .i64 proto) ∧ w.cell? ⟨w0.heap.size, 4, none⟩ = some (.int .i64 hops) ∧ w.cell? ⟨w0.heap.size, 5, none⟩ = some (.int .i64 cls) ∧ w.cell? ⟨w0.heap.size, 6, none⟩ = some (.int .i64 id) ∧ w.cell? ⟨w0.heap.size, 7, none⟩ = some (.int .i64 flags) ∧ w.cell? ⟨w0.heap.size, 8, none⟩ = some (.int .i64 off) ∧ w.cell? ⟨w0.heap.size, 9, none⟩ = some (.int .i64 label) ∧ w.cell? ⟨w0.heap.size, 10, none⟩ = some (.string opt) ∧ w.cell? ⟨w0.heap.size, 11, none⟩ = some (.string body)) ∧ w.cell? ⟨g, 9, none⟩ = some (.bool k) := ⟨⟨h.p.cell 0, h.p.cell 1, h.p.cell 2, h.p.cell 3, h.p.cell 4, h.p.cell 5, h.p.cell 6, h.p.cell 7, h.p.cell 8, h.p.cell 9, h.p.cell 10, h.p.cell 11⟩, h.gb.cell 9⟩
theorem rg_on {w0 w1 w' : World} {g : Nat} {v : Int} {src dst : ByteArray} {proto hops cls id flags off label : Int} {opt body : ByteArray} {y0 y1 y2 y3 y4 y5 y6 y7 y8 : Value} {k : Bool} (h : ((w1.cell? ⟨w0.heap.size, 0, none⟩ = some (.int .i64 v) ∧ w1.cell? ⟨w0.heap.size, 1, none⟩ = some (.string src) ∧ w1.cell? ⟨w0.heap.size, 2, none⟩ = some (.string dst) ∧ w1.cell? ⟨w0.heap.size, 3, none⟩ = some (.int .i64 proto) ∧ w1.cell? ⟨w0.heap.size, 4, none⟩ = some (.int .i64 hops) ∧ w1.cell? ⟨w0.heap.size, 5, none⟩ = some (.int .i64 cls) ∧ w1.cell? ⟨w0.heap.size, 6, none⟩ = some (.int .i64 id) ∧ w1.cell? ⟨w0.heap.size, 7, none⟩ = some (.int .i64 flags) ∧ w1.cell? ⟨w0.heap.size, 8, none⟩ = some (.int .i64 off) ∧ w1.cell? ⟨w0.heap.size, 9, none⟩ = some (.int .i64 label) ∧ w1.cell? ⟨w0.heap.size, 10, none⟩ = some (.string opt) ∧ w1.cell? ⟨w0.heap.size, 11, none⟩ = some (.string body)) ∧ w1.cell? ⟨g, 9, none⟩ = some (.bool k)) ∧ RG w0 g #[.int .i64 v, .string src, .string dst, .int .i64 proto, .int .i64 hops, .int .i64 cls, .int .i64 id, .int .i64 flags, .int .i64 off, .int .i64 label, .string opt, .string body] #[y0, y1, y2, y3, y4, y5, y6, y7, y8, .bool k] w1) (hq : Below w1.heap.size w1 w') : ((w'.cell? ⟨w0.heap.size, 0, none⟩ = some (.int .i64 v) ∧ w'.cell? ⟨w0.heap.size, 1, none⟩ = some (.string src) ∧ w'.cell? ⟨w0.heap.size, 2, none⟩ = some (.string dst) ∧ w'.cell? ⟨w0.heap.size, 3, none⟩ = some (.int .i64 proto) ∧ w'.cell? ⟨w0.heap.size, 4, none⟩ = some (.int .i64 hops) ∧ w'.cell? ⟨w0.heap.size, 5, none⟩ = some (.int .i64 cls) ∧ w'.cell? ⟨w0.heap.size, 6, none⟩ = some (.int .i64 id) ∧ w'.cell? ⟨w0.heap.size, 7, none⟩ = some (.int .i64 flags) ∧ w'.cell? ⟨w0.heap.size, 8, none⟩ = some (.int .i64 off) ∧ w'.cell? ⟨w0.heap.size, 9, none⟩ = some (.int .i64 label) ∧ w'.cell? ⟨w0.heap.size, 10, none⟩ = some (.string opt) ∧ w'.cell? ⟨w0.heap.size, 11, none⟩ = some (.string body)) ∧ w'.cell? ⟨g, 9, none⟩ = some (.bool k)) ∧ RG w0 g #[.int .i64 v, .string src, .string dst, .int .i64 proto, .int .i64 hops, .int .i64 cls, .int .i64 id, .int .i64 flags, .int .i64 off, .int .i64 label, .string opt, .string body] #[y0, y1, y2, y3, y4, y5, y6, y7, y8, .bool k] w' := ⟨rg_cells (h.2.on hq), h.2.on hq⟩
theorem rg_here {w0 w1 : World} {g : Nat} {v : Int} {src dst : ByteArray} {proto hops cls id flags off label : Int} {opt body : ByteArray} {y0 y1 y2 y3 y4 y5 y6 y7 y8 : Value} {k : Bool} (h : RG w0 g #[.int .i64 v, .string src, .string dst, .int .i64 proto, .int .i64 hops, .int .i64 cls, .int .i64 id, .int .i64 flags, .int .i64 off, .int .i64 label, .string opt, .string body] #[y0, y1, y2, y3, y4, y5, y6, y7, y8, .bool k] w1) : ((w1.drew.cell? ⟨w0.heap.size, 0, none⟩ = some (.int .i64 v) ∧ w1.drew.cell? ⟨w0.heap.size, 1, none⟩ = some (.string src) ∧ w1.drew.cell? ⟨w0.heap.size, 2, none⟩ = some (.string dst) ∧ w1.drew.cell? ⟨w0.heap.size, 3, none⟩ = some (.int .i64 proto) ∧ w1.drew.cell? ⟨w0.heap.size, 4, none⟩ = some (.int .i64 hops) ∧ w1.drew.cell? ⟨w0.heap.size, 5, none⟩ = some (.int .i64 cls) ∧ w1.drew.cell? ⟨w0.heap.size, 6, none⟩ = some (.int .i64 id) ∧ w1.drew.cell? ⟨w0.heap.size, 7, none⟩ = some (.int .i64 flags) ∧ w1.drew.cell? ⟨w0.heap.size, 8, none⟩ = some (.int .i64 off) ∧ w1.drew.cell? ⟨w0.heap.size, 9, none⟩ = some (.int .i64 label) ∧ w1.drew.cell? ⟨w0.heap.size, 10, none⟩ = some (.string opt) ∧ w1.drew.cell? ⟨w0.heap.size, 11, none⟩ = some (.string body)) ∧ w1.drew.cell? ⟨g, 9, none⟩ = some (.bool k)) ∧ RG w0 g #[.int .i64 v, .string src, .string dst, .int .i64 proto, .int .i64 hops, .int .i64 cls, .int .i64 id, .int .i64 flags, .int .i64 off, .int .i64 label, .string opt, .string body] #[y0, y1, y2, y3, y4, y5, y6, y7, y8, .bool k] w1.drew := ⟨rg_cells (h.on (Below.drew (Below.refl _ _))), h.on (Below.drew (Below.refl _ _))⟩
end Go.Proofs.Ytalkpllmcigjnaa
namespace Go.Proofs.Ytalkpllmcigjnaa
open Go.RowKit

set_option maxRecDepth 100000 in
set_option maxHeartbeats 3200000 in
theorem rps_cannot (v : Int) (src dst : ByteArray) (proto hops cls id flags off label : Int) (opt body : ByteArray) (w : World) (A1 : ∀ W, Calls Try.prog 77 #[.agg #[.int .i64 v, .string src, .string dst, .int .i64 proto, .int .i64 hops, .int .i64 cls, .int .i64 id, .int .i64 flags, .int .i64 off, .int .i64 label, .string opt, .string body]] W fun e w' => e = .returned (.bool false) ∧ Below W.heap.size W w') : Calls Try.prog 36 #[.agg #[.int .i64 v, .string src, .string dst, .int .i64 proto, .int .i64 hops, .int .i64 cls, .int .i64 id, .int .i64 flags, .int .i64 off, .int .i64 label, .string opt, .string body]] w (SaysG w #[.int .i64 0, .int .i64 0, .int .u32 0, .int .u32 0, .int .i64 0, .int .i64 0, .int .i64 0, .string ⟨#[]⟩, .string ⟨#[]⟩, .bool false] 81) := by
  have H1 := Lib.hid A1
  clear A1
  have hN := Two2.new w #[.int .i64 v, .string src, .string dst, .int .i64 proto, .int .i64 hops, .int .i64 cls, .int .i64 id, .int .i64 flags, .int .i64 off, .int .i64 label, .string opt, .string body] #[.int .i64 0, .int .i64 0, .int .u32 0, .int .u32 0, .int .i64 0, .int .i64 0, .int .i64 0, .string ⟨#[]⟩, .string ⟨#[]⟩, .bool false]
  go_enter Try.func36, Try.ntmps36
  go_wp2_with fail
  refine (H1.out _).mono ?_
  rintro e w1 ⟨rfl, hq⟩
  have h1 := hN.next hq
  clear hq hN
  obtain ⟨⟨c0, c1, c2, c3, c4, c5, c6, c7, c8, c9, c10, c11⟩, ⟨g0, g1, g2, g3, g4, g5, g6, g7, g8, g9⟩⟩ := h1.cells
  have fr := h1.g.frozen
  have hB := h1.below
  have hzr := h1.g.lt
  have hz0 : w.heap.size < w1.heap.size := by omega
  have hne0 : w.heap.size ≠ w1.heap.size := by omega
  have hne1 : w.heap.size + 1 ≠ w1.heap.size := by omega
  go_wp2_with fail
  exact bodyPost_ret (v := .tuple #[.agg #[.int .i64 0, .int .i64 0, .int .u32 0, .int .u32 0, .int .i64 0, .int .i64 0, .int .i64 0, .string ⟨#[]⟩, .string ⟨#[]⟩, .bool false], .int .i64 81]) (rps_results _ _ (w.heap.size + 1) rfl rfl (set10 h1.g (.int .i64 0) (.int .i64 0) (.int .u32 0) (.int .u32 0) (.int .i64 0) (.int .i64 0) (.int .i64 0) (.string ⟨#[]⟩) (.string ⟨#[]⟩) (.bool false))) rfl ⟨rfl, below10 hB (by omega : w.heap.size ≤ w.heap.size + 1) (.int .i64 0) (.int .i64 0) (.int .u32 0) (.int .u32 0) (.int .i64 0) (.int .i64 0) (.int .i64 0) (.string ⟨#[]⟩) (.string ⟨#[]⟩) (.bool false)⟩
set_option maxRecDepth 100000 in
set_option maxHeartbeats 3200000 in
theorem rps_udp_few (v : Int) (src dst : ByteArray) (proto hops cls id flags off label : Int) (opt body : ByteArray) (w : World) (hp : (proto == 17) = true) (h : body.size < 8) (A1 : ∀ W, Calls Try.prog 77 #[.agg #[.int .i64 v, .string src, .string dst, .int .i64 proto, .int .i64 hops, .int .i64 cls, .int .i64 id, .int .i64 flags, .int .i64 off, .int .i64 label, .string opt, .string body]] W fun e w' => e = .returned (.bool true) ∧ Below W.heap.size W w') : Calls Try.prog 36 #[.agg #[.int .i64 v, .string src, .string dst, .int .i64 proto, .int .i64 hops, .int .i64 cls, .int .i64 id, .int .i64 flags, .int .i64 off, .int .i64 label, .string opt, .string body]] w (SaysG w #[.int .i64 0, .int .i64 0, .int .u32 0, .int .u32 0, .int .i64 0, .int .i64 0, .int .i64 0, .string ⟨#[]⟩, .string ⟨#[]⟩, .bool false] 80) := by
  have H1 := Lib.hid A1
  clear A1
  have hN := Two2.new w #[.int .i64 v, .string src, .string dst, .int .i64 proto, .int .i64 hops, .int .i64 cls, .int .i64 id, .int .i64 flags, .int .i64 off, .int .i64 label, .string opt, .string body] #[.int .i64 0, .int .i64 0, .int .u32 0, .int .u32 0, .int .i64 0, .int .i64 0, .int .i64 0, .string ⟨#[]⟩, .string ⟨#[]⟩, .bool false]
  go_enter Try.func36, Try.ntmps36
  go_wp2_with fail
  refine (H1.out _).mono ?_
  rintro e w1 ⟨rfl, hq⟩
  have h1 := hN.next hq
  clear hq hN
  obtain ⟨⟨c0, c1, c2, c3, c4, c5, c6, c7, c8, c9, c10, c11⟩, ⟨g0, g1, g2, g3, g4, g5, g6, g7, g8, g9⟩⟩ := h1.cells
  have fr := h1.g.frozen
  have hB := h1.below
  have hzr := h1.g.lt
  have hz0 : w.heap.size < w1.heap.size := by omega
  have hne0 : w.heap.size ≠ w1.heap.size := by omega
  have hne1 : w.heap.size + 1 ≠ w1.heap.size := by omega
  go_wp2_with fail
  exact bodyPost_ret (v := .tuple #[.agg #[.int .i64 0, .int .i64 0, .int .u32 0, .int .u32 0, .int .i64 0, .int .i64 0, .int .i64 0, .string ⟨#[]⟩, .string ⟨#[]⟩, .bool false], .int .i64 80]) (rps_results _ _ (w.heap.size + 1) rfl rfl ((set10 h1.g (.int .i64 0) (.int .i64 0) (.int .u32 0) (.int .u32 0) (.int .i64 0) (.int .i64 0) (.int .i64 0) (.string ⟨#[]⟩) (.string ⟨#[]⟩) (.bool false)).alloc _)) rfl ⟨rfl, (below10 hB (by omega : w.heap.size ≤ w.heap.size + 1) (.int .i64 0) (.int .i64 0) (.int .u32 0) (.int .u32 0) (.int .i64 0) (.int .i64 0) (.int .i64 0) (.string ⟨#[]⟩) (.string ⟨#[]⟩) (.bool false)).alloc (by simp; omega) _⟩
set_option maxRecDepth 100000 in
set_option maxHeartbeats 3200000 in
theorem rps_udp_form (v : Int) (src dst : ByteArray) (proto hops cls id flags off label : Int) (opt body : ByteArray) (w : World) (hp : (proto == 17) = true) (h : 8 ≤ body.size) (hb : body.size ≤ 65535) (h4 : nat body 4 2 ≠ body.size) (A1 : ∀ W, Calls Try.prog 77 #[.agg #[.int .i64 v, .string src, .string dst, .int .i64 proto, .int .i64 hops, .int .i64 cls, .int .i64 id, .int .i64 flags, .int .i64 off, .int .i64 label, .string opt, .string body]] W fun e w' => e = .returned (.bool true) ∧ Below W.heap.size W w') : Calls Try.prog 36 #[.agg #[.int .i64 v, .string src, .string dst, .int .i64 proto, .int .i64 hops, .int .i64 cls, .int .i64 id, .int .i64 flags, .int .i64 off, .int .i64 label, .string opt, .string body]] w (SaysG w #[.int .i64 0, .int .i64 0, .int .u32 0, .int .u32 0, .int .i64 0, .int .i64 0, .int .i64 0, .string ⟨#[]⟩, .string ⟨#[]⟩, .bool false] 81) := by
  have hbz : body.size ≤ maxLen := by unfold maxLen; omega
  have d8 : ¬ (body.size : Int) < 8 := by omega
  have A4 : ∀ W, Calls Try.prog 78 #[.string body, .int .i64 4, .int .i64 2] W fun e w' => e = .returned (.int .i64 (nat body 4 2)) ∧ W = w' := fun W => num8_any body 4 2 W hbz (by omega) (by omega) (by omega)
  generalize nat body 4 2 = X4 at *
  have e4 : ((X4 : Int) != (body.size : Int)) = true := by simpa using (by omega : (X4 : Int) ≠ body.size)
  have H4 := Lib.hid A4
  clear A4 h4
  have H1 := Lib.hid A1
  clear A1
  have hN := Two2.new w #[.int .i64 v, .string src, .string dst, .int .i64 proto, .int .i64 hops, .int .i64 cls, .int .i64 id, .int .i64 flags, .int .i64 off, .int .i64 label, .string opt, .string body] #[.int .i64 0, .int .i64 0, .int .u32 0, .int .u32 0, .int .i64 0, .int .i64 0, .int .i64 0, .string ⟨#[]⟩, .string ⟨#[]⟩, .bool false]
  go_enter Try.func36, Try.ntmps36
  go_wp2_with fail
  refine (H1.out _).mono ?_
  rintro e w1 ⟨rfl, hq⟩
  have h1 := hN.next hq
  clear hq hN
  obtain ⟨⟨c0, c1, c2, c3, c4, c5, c6, c7, c8, c9, c10, c11⟩, ⟨g0, g1, g2, g3, g4, g5, g6, g7, g8, g9⟩⟩ := h1.cells
  have fr := h1.g.frozen
  have hB := h1.below
  have hzr := h1.g.lt
  have hz0 : w.heap.size < w1.heap.size := by omega
  have hne0 : w.heap.size ≠ w1.heap.size := by omega
  have hne1 : w.heap.size + 1 ≠ w1.heap.size := by omega
  go_wp2_with (go_at_call 78; (with_reducible refine (H4.out _).mono ?_); rintro e w' ⟨rfl, rfl⟩)
  exact bodyPost_ret (v := .tuple #[.agg #[.int .i64 0, .int .i64 0, .int .u32 0, .int .u32 0, .int .i64 0, .int .i64 0, .int .i64 0, .string ⟨#[]⟩, .string ⟨#[]⟩, .bool false], .int .i64 81]) (rps_results _ _ (w.heap.size + 1) rfl rfl ((set10 h1.g (.int .i64 0) (.int .i64 0) (.int .u32 0) (.int .u32 0) (.int .i64 0) (.int .i64 0) (.int .i64 0) (.string ⟨#[]⟩) (.string ⟨#[]⟩) (.bool false)).alloc _)) rfl ⟨rfl, (below10 hB (by omega : w.heap.size ≤ w.heap.size + 1) (.int .i64 0) (.int .i64 0) (.int .u32 0) (.int .u32 0) (.int .i64 0) (.int .i64 0) (.int .i64 0) (.string ⟨#[]⟩) (.string ⟨#[]⟩) (.bool false)).alloc (by simp; omega) _⟩
set_option maxRecDepth 100000 in
set_option maxHeartbeats 3200000 in
theorem rps_tcp_few (v : Int) (src dst : ByteArray) (proto hops cls id flags off label : Int) (opt body : ByteArray) (w : World) (hp : (proto == 17) = false) (h : body.size < 20) (A1 : ∀ W, Calls Try.prog 77 #[.agg #[.int .i64 v, .string src, .string dst, .int .i64 proto, .int .i64 hops, .int .i64 cls, .int .i64 id, .int .i64 flags, .int .i64 off, .int .i64 label, .string opt, .string body]] W fun e w' => e = .returned (.bool true) ∧ Below W.heap.size W w') : Calls Try.prog 36 #[.agg #[.int .i64 v, .string src, .string dst, .int .i64 proto, .int .i64 hops, .int .i64 cls, .int .i64 id, .int .i64 flags, .int .i64 off, .int .i64 label, .string opt, .string body]] w (SaysG w #[.int .i64 0, .int .i64 0, .int .u32 0, .int .u32 0, .int .i64 0, .int .i64 0, .int .i64 0, .string ⟨#[]⟩, .string ⟨#[]⟩, .bool false] 80) := by
  have H1 := Lib.hid A1
  clear A1
  have hN := Two2.new w #[.int .i64 v, .string src, .string dst, .int .i64 proto, .int .i64 hops, .int .i64 cls, .int .i64 id, .int .i64 flags, .int .i64 off, .int .i64 label, .string opt, .string body] #[.int .i64 0, .int .i64 0, .int .u32 0, .int .u32 0, .int .i64 0, .int .i64 0, .int .i64 0, .string ⟨#[]⟩, .string ⟨#[]⟩, .bool false]
  go_enter Try.func36, Try.ntmps36
  go_wp2_with fail
  refine (H1.out _).mono ?_
  rintro e w1 ⟨rfl, hq⟩
  have h1 := hN.next hq
  clear hq hN
  obtain ⟨⟨c0, c1, c2, c3, c4, c5, c6, c7, c8, c9, c10, c11⟩, ⟨g0, g1, g2, g3, g4, g5, g6, g7, g8, g9⟩⟩ := h1.cells
  have fr := h1.g.frozen
  have hB := h1.below
  have hzr := h1.g.lt
  have hz0 : w.heap.size < w1.heap.size := by omega
  have hne0 : w.heap.size ≠ w1.heap.size := by omega
  have hne1 : w.heap.size + 1 ≠ w1.heap.size := by omega
  go_wp2_with fail
  exact bodyPost_ret (v := .tuple #[.agg #[.int .i64 0, .int .i64 0, .int .u32 0, .int .u32 0, .int .i64 0, .int .i64 0, .int .i64 0, .string ⟨#[]⟩, .string ⟨#[]⟩, .bool false], .int .i64 80]) (rps_results _ _ (w.heap.size + 1) rfl rfl ((set10 h1.g (.int .i64 0) (.int .i64 0) (.int .u32 0) (.int .u32 0) (.int .i64 0) (.int .i64 0) (.int .i64 0) (.string ⟨#[]⟩) (.string ⟨#[]⟩) (.bool false)).alloc _)) rfl ⟨rfl, (below10 hB (by omega : w.heap.size ≤ w.heap.size + 1) (.int .i64 0) (.int .i64 0) (.int .u32 0) (.int .u32 0) (.int .i64 0) (.int .i64 0) (.int .i64 0) (.string ⟨#[]⟩) (.string ⟨#[]⟩) (.bool false)).alloc (by simp; omega) _⟩
set_option maxRecDepth 100000 in
set_option maxHeartbeats 3200000 in
theorem rps_tcp_less (v : Int) (src dst : ByteArray) (proto hops cls id flags off label : Int) (opt body : ByteArray) (w : World) (hp : (proto == 17) = false) (C D m n : Nat) (hC : nat body 12 1 = C) (hD : C / 16 = D) (hm : C % 16 = m) (hn : 4 * D = n) (h : 20 ≤ body.size) (h1 : body.size < n) (A1 : ∀ W, Calls Try.prog 77 #[.agg #[.int .i64 v, .string src, .string dst, .int .i64 proto, .int .i64 hops, .int .i64 cls, .int .i64 id, .int .i64 flags, .int .i64 off, .int .i64 label, .string opt, .string body]] W fun e w' => e = .returned (.bool true) ∧ Below W.heap.size W w') : Calls Try.prog 36 #[.agg #[.int .i64 v, .string src, .string dst, .int .i64 proto, .int .i64 hops, .int .i64 cls, .int .i64 id, .int .i64 flags, .int .i64 off, .int .i64 label, .string opt, .string body]] w (SaysG w #[.int .i64 0, .int .i64 0, .int .u32 0, .int .u32 0, .int .i64 0, .int .i64 0, .int .i64 0, .string ⟨#[]⟩, .string ⟨#[]⟩, .bool false] 80) := by
  have k12 := byte_is body 12 (by omega)
  have l12 := nat_lt body 12 1
  rw [hC] at k12 l12
  have d20 : ¬ (body.size : Int) < 20 := by omega
  have q1 : (12 : Int) < body.size := by omega
  have q2 : 12 < body.size := by omega
  have wC : IntKind.i64.wrap (C : Int) = (C : Int) := IntWalk.i64_in _ (by omega)
  have t1 : (C : Int).tdiv 16 = (D : Int) := by rw [Int.tdiv_eq_ediv_of_nonneg (by omega)]; omega
  have t2 : (C : Int).tmod 16 = (m : Int) := by rw [Int.tmod_eq_emod_of_nonneg (by omega)]; omega
  have t3 : (D : Int) * 4 = (n : Int) := by omega
  have t4 : n ≤ 60 := by omega
  have d1 : (body.size : Int) < n := by omega
  have H1 := Lib.hid A1
  clear A1
  have hN := Two2.new w #[.int .i64 v, .string src, .string dst, .int .i64 proto, .int .i64 hops, .int .i64 cls, .int .i64 id, .int .i64 flags, .int .i64 off, .int .i64 label, .string opt, .string body] #[.int .i64 0, .int .i64 0, .int .u32 0, .int .u32 0, .int .i64 0, .int .i64 0, .int .i64 0, .string ⟨#[]⟩, .string ⟨#[]⟩, .bool false]
  go_enter Try.func36, Try.ntmps36
  go_wp2_with fail
  refine (H1.out _).mono ?_
  rintro e w1 ⟨rfl, hq⟩
  have hh1 := hN.next hq
  clear hq hN
  obtain ⟨⟨c0, c1, c2, c3, c4, c5, c6, c7, c8, c9, c10, c11⟩, ⟨g0, g1, g2, g3, g4, g5, g6, g7, g8, g9⟩⟩ := hh1.cells
  have fr := hh1.g.frozen
  have hB := hh1.below
  have hzr := hh1.g.lt
  have hz0 : w.heap.size < w1.heap.size := by omega
  have hne0 : w.heap.size ≠ w1.heap.size := by omega
  have hne1 : w.heap.size + 1 ≠ w1.heap.size := by omega
  go_wp2_with fail
  exact bodyPost_ret (v := .tuple #[.agg #[.int .i64 0, .int .i64 0, .int .u32 0, .int .u32 0, .int .i64 0, .int .i64 0, .int .i64 0, .string ⟨#[]⟩, .string ⟨#[]⟩, .bool false], .int .i64 80]) (rps_results _ _ (w.heap.size + 1) rfl rfl ((set10 hh1.g (.int .i64 0) (.int .i64 0) (.int .u32 0) (.int .u32 0) (.int .i64 0) (.int .i64 0) (.int .i64 0) (.string ⟨#[]⟩) (.string ⟨#[]⟩) (.bool false)).alloc _)) rfl ⟨rfl, (below10 hB (by omega : w.heap.size ≤ w.heap.size + 1) (.int .i64 0) (.int .i64 0) (.int .u32 0) (.int .u32 0) (.int .i64 0) (.int .i64 0) (.int .i64 0) (.string ⟨#[]⟩) (.string ⟨#[]⟩) (.bool false)).alloc (by simp; omega) _⟩
set_option maxRecDepth 100000 in
set_option maxHeartbeats 3200000 in
theorem rps_tcp_form1 (v : Int) (src dst : ByteArray) (proto hops cls id flags off label : Int) (opt body : ByteArray) (w : World) (hp : (proto == 17) = false) (C D m n : Nat) (hC : nat body 12 1 = C) (hD : C / 16 = D) (hm : C % 16 = m) (hn : 4 * D = n) (h : 20 ≤ body.size) (h1 : n ≤ body.size) (h2 : n < 20) (A1 : ∀ W, Calls Try.prog 77 #[.agg #[.int .i64 v, .string src, .string dst, .int .i64 proto, .int .i64 hops, .int .i64 cls, .int .i64 id, .int .i64 flags, .int .i64 off, .int .i64 label, .string opt, .string body]] W fun e w' => e = .returned (.bool true) ∧ Below W.heap.size W w') : Calls Try.prog 36 #[.agg #[.int .i64 v, .string src, .string dst, .int .i64 proto, .int .i64 hops, .int .i64 cls, .int .i64 id, .int .i64 flags, .int .i64 off, .int .i64 label, .string opt, .string body]] w (SaysG w #[.int .i64 0, .int .i64 0, .int .u32 0, .int .u32 0, .int .i64 0, .int .i64 0, .int .i64 0, .string ⟨#[]⟩, .string ⟨#[]⟩, .bool false] 81) := by
  have k12 := byte_is body 12 (by omega)
  have l12 := nat_lt body 12 1
  rw [hC] at k12 l12
  have d20 : ¬ (body.size : Int) < 20 := by omega
  have q1 : (12 : Int) < body.size := by omega
  have q2 : 12 < body.size := by omega
  have wC : IntKind.i64.wrap (C : Int) = (C : Int) := IntWalk.i64_in _ (by omega)
  have t1 : (C : Int).tdiv 16 = (D : Int) := by rw [Int.tdiv_eq_ediv_of_nonneg (by omega)]; omega
  have t2 : (C : Int).tmod 16 = (m : Int) := by rw [Int.tmod_eq_emod_of_nonneg (by omega)]; omega
  have t3 : (D : Int) * 4 = (n : Int) := by omega
  have t4 : n ≤ 60 := by omega
  have d1 : ¬ (body.size : Int) < n := by omega
  have d2 : (n : Int) < 20 := by omega
  have H1 := Lib.hid A1
  clear A1
  have hN := Two2.new w #[.int .i64 v, .string src, .string dst, .int .i64 proto, .int .i64 hops, .int .i64 cls, .int .i64 id, .int .i64 flags, .int .i64 off, .int .i64 label, .string opt, .string body] #[.int .i64 0, .int .i64 0, .int .u32 0, .int .u32 0, .int .i64 0, .int .i64 0, .int .i64 0, .string ⟨#[]⟩, .string ⟨#[]⟩, .bool false]
  go_enter Try.func36, Try.ntmps36
  go_wp2_with fail
  refine (H1.out _).mono ?_
  rintro e w1 ⟨rfl, hq⟩
  have hh1 := hN.next hq
  clear hq hN
  obtain ⟨⟨c0, c1, c2, c3, c4, c5, c6, c7, c8, c9, c10, c11⟩, ⟨g0, g1, g2, g3, g4, g5, g6, g7, g8, g9⟩⟩ := hh1.cells
  have fr := hh1.g.frozen
  have hB := hh1.below
  have hzr := hh1.g.lt
  have hz0 : w.heap.size < w1.heap.size := by omega
  have hne0 : w.heap.size ≠ w1.heap.size := by omega
  have hne1 : w.heap.size + 1 ≠ w1.heap.size := by omega
  go_wp2_with fail
  exact bodyPost_ret (v := .tuple #[.agg #[.int .i64 0, .int .i64 0, .int .u32 0, .int .u32 0, .int .i64 0, .int .i64 0, .int .i64 0, .string ⟨#[]⟩, .string ⟨#[]⟩, .bool false], .int .i64 81]) (rps_results _ _ (w.heap.size + 1) rfl rfl ((set10 hh1.g (.int .i64 0) (.int .i64 0) (.int .u32 0) (.int .u32 0) (.int .i64 0) (.int .i64 0) (.int .i64 0) (.string ⟨#[]⟩) (.string ⟨#[]⟩) (.bool false)).alloc _)) rfl ⟨rfl, (below10 hB (by omega : w.heap.size ≤ w.heap.size + 1) (.int .i64 0) (.int .i64 0) (.int .u32 0) (.int .u32 0) (.int .i64 0) (.int .i64 0) (.int .i64 0) (.string ⟨#[]⟩) (.string ⟨#[]⟩) (.bool false)).alloc (by simp; omega) _⟩
set_option maxRecDepth 100000 in
set_option maxHeartbeats 3200000 in
theorem rps_tcp_form2 (v : Int) (src dst : ByteArray) (proto hops cls id flags off label : Int) (opt body : ByteArray) (w : World) (hp : (proto == 17) = false) (C D m n : Nat) (hC : nat body 12 1 = C) (hD : C / 16 = D) (hm : C % 16 = m) (hn : 4 * D = n) (h : 20 ≤ body.size) (h1 : n ≤ body.size) (h2 : 20 ≤ n) (h3 : m ≠ 0) (A1 : ∀ W, Calls Try.prog 77 #[.agg #[.int .i64 v, .string src, .string dst, .int .i64 proto, .int .i64 hops, .int .i64 cls, .int .i64 id, .int .i64 flags, .int .i64 off, .int .i64 label, .string opt, .string body]] W fun e w' => e = .returned (.bool true) ∧ Below W.heap.size W w') : Calls Try.prog 36 #[.agg #[.int .i64 v, .string src, .string dst, .int .i64 proto, .int .i64 hops, .int .i64 cls, .int .i64 id, .int .i64 flags, .int .i64 off, .int .i64 label, .string opt, .string body]] w (SaysG w #[.int .i64 0, .int .i64 0, .int .u32 0, .int .u32 0, .int .i64 0, .int .i64 0, .int .i64 0, .string ⟨#[]⟩, .string ⟨#[]⟩, .bool false] 81) := by
  have k12 := byte_is body 12 (by omega)
  have l12 := nat_lt body 12 1
  rw [hC] at k12 l12
  have d20 : ¬ (body.size : Int) < 20 := by omega
  have q1 : (12 : Int) < body.size := by omega
  have q2 : 12 < body.size := by omega
  have wC : IntKind.i64.wrap (C : Int) = (C : Int) := IntWalk.i64_in _ (by omega)
  have t1 : (C : Int).tdiv 16 = (D : Int) := by rw [Int.tdiv_eq_ediv_of_nonneg (by omega)]; omega
  have t2 : (C : Int).tmod 16 = (m : Int) := by rw [Int.tmod_eq_emod_of_nonneg (by omega)]; omega
  have t3 : (D : Int) * 4 = (n : Int) := by omega
  have t4 : n ≤ 60 := by omega
  have d1 : ¬ (body.size : Int) < n := by omega
  have d2 : ¬ (n : Int) < 20 := by omega
  have d3 : ((m : Int) != 0) = true := by simpa using (by omega : (m : Int) ≠ 0)
  have H1 := Lib.hid A1
  clear A1
  have hN := Two2.new w #[.int .i64 v, .string src, .string dst, .int .i64 proto, .int .i64 hops, .int .i64 cls, .int .i64 id, .int .i64 flags, .int .i64 off, .int .i64 label, .string opt, .string body] #[.int .i64 0, .int .i64 0, .int .u32 0, .int .u32 0, .int .i64 0, .int .i64 0, .int .i64 0, .string ⟨#[]⟩, .string ⟨#[]⟩, .bool false]
  go_enter Try.func36, Try.ntmps36
  go_wp2_with fail
  refine (H1.out _).mono ?_
  rintro e w1 ⟨rfl, hq⟩
  have hh1 := hN.next hq
  clear hq hN
  obtain ⟨⟨c0, c1, c2, c3, c4, c5, c6, c7, c8, c9, c10, c11⟩, ⟨g0, g1, g2, g3, g4, g5, g6, g7, g8, g9⟩⟩ := hh1.cells
  have fr := hh1.g.frozen
  have hB := hh1.below
  have hzr := hh1.g.lt
  have hz0 : w.heap.size < w1.heap.size := by omega
  have hne0 : w.heap.size ≠ w1.heap.size := by omega
  have hne1 : w.heap.size + 1 ≠ w1.heap.size := by omega
  go_wp2_with fail
  exact bodyPost_ret (v := .tuple #[.agg #[.int .i64 0, .int .i64 0, .int .u32 0, .int .u32 0, .int .i64 0, .int .i64 0, .int .i64 0, .string ⟨#[]⟩, .string ⟨#[]⟩, .bool false], .int .i64 81]) (rps_results _ _ (w.heap.size + 1) rfl rfl ((set10 hh1.g (.int .i64 0) (.int .i64 0) (.int .u32 0) (.int .u32 0) (.int .i64 0) (.int .i64 0) (.int .i64 0) (.string ⟨#[]⟩) (.string ⟨#[]⟩) (.bool false)).alloc _)) rfl ⟨rfl, (below10 hB (by omega : w.heap.size ≤ w.heap.size + 1) (.int .i64 0) (.int .i64 0) (.int .u32 0) (.int .u32 0) (.int .i64 0) (.int .i64 0) (.int .i64 0) (.string ⟨#[]⟩) (.string ⟨#[]⟩) (.bool false)).alloc (by simp; omega) _⟩
end Go.Proofs.Ytalkpllmcigjnaa

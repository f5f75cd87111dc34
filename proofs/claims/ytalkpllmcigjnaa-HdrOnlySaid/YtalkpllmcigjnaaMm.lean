/-
  What nethdr.Offload answers.
-/
import Derived.Test.YtalkpllmcigjnaaMi
import Derived.Test.YtalkpllmcigjnaaMc
import Derived.Test.YtalkpllmcigjnaaMd
import Derived.Test.YtalkpllmcigjnaaMh
import Derived.Test.YtalkpllmcigjnaaMf
import Derived.Test.YtalkpllmcigjnaaMj
import Derived.Deep.RegionHeld3
namespace Go.Proofs.Ytalkpllmcigjnaa
open Go.RowKit

theorem pkO_results (w : World) (tmps : Array Value) (gf : Nat) {k : Bool} (h2 : tmps[2]?.getD undef = .pointer (some ⟨gf, 0, none⟩)) (h3 : tmps[3]?.getD undef = .bool k) {v : Int} {src dst : ByteArray} {proto hops cls id flags off label : Int} {opt body : ByteArray}
    (hF : Blk w gf 36 #[.int .i64 v, .string src, .string dst, .int .i64 proto, .int .i64 hops, .int .i64 cls, .int .i64 id, .int .i64 flags, .int .i64 off, .int .i64 label, .string opt, .string body]) : (results Try.f28 tmps).run Try.prog w = .ok (.tuple #[.agg #[.int .i64 v, .string src, .string dst, .int .i64 proto, .int .i64 hops, .int .i64 cls, .int .i64 id, .int .i64 flags, .int .i64 off, .int .i64 label, .string opt, .string body], .bool k]) w := by
  have c0 := hF.cell 0
  have c1 := hF.cell 1
  have c2 := hF.cell 2
  have c3 := hF.cell 3
  have c4 := hF.cell 4
  have c5 := hF.cell 5
  have c6 := hF.cell 6
  have c7 := hF.cell 7
  have c8 := hF.cell 8
  have c9 := hF.cell 9
  have c10 := hF.cell 10
  have c11 := hF.cell 11
  simp only [List.getElem?_toArray, List.getElem?_cons_zero, List.getElem?_cons_succ] at c0 c1 c2 c3 c4 c5 c6 c7 c8 c9 c10 c11
  simp [results, Try.results28, go_sem, h2, h3, c0, c1, c2, c3, c4, c5, c6, c7, c8, c9, c10, c11]
def OfPk (w : World) (p : Array Value) (k : Bool) (e : Ending) (w' : World) : Prop := e = .returned (.tuple #[.agg p, .bool k]) ∧ Below w.heap.size w w'
set_option maxRecDepth 100000 in
set_option maxHeartbeats 1600000 in
theorem packetOf_bad (s : ByteArray) (w : World) (E : Int) (d r : ByteArray) (vl pr ty : Int) (b : ByteArray) (hE : (E != 0) = true)
    (A : ∀ W, Calls Try.prog 65 #[.string s] W fun e w' => e = .returned (.tuple #[.agg #[.string d, .string r, .int .i64 vl, .int .i64 pr, .int .i64 ty, .string b], .int .i64 E]) ∧ Below W.heap.size W w') : Calls Try.prog 28 #[.string s] w (OfPk w #[.int .i64 0, .string ⟨#[]⟩, .string ⟨#[]⟩, .int .i64 0, .int .i64 0, .int .i64 0, .int .i64 0, .int .i64 0, .int .i64 0, .int .i64 0, .string ⟨#[]⟩, .string ⟨#[]⟩] false) := by
  have HA := Lib.hid A
  clear A
  go_enter Try.func28, Try.ntmps28
  go_wp2_with fail
  refine (HA.out _).mono ?_
  rintro e w1 ⟨rfl, hq⟩
  have hS := (Held.new w 36 #[.int .i64 0, .string ⟨#[]⟩, .string ⟨#[]⟩, .int .i64 0, .int .i64 0, .int .i64 0, .int .i64 0, .int .i64 0, .int .i64 0, .int .i64 0, .string ⟨#[]⟩, .string ⟨#[]⟩]).next hq
  have r0 : w1.cell? ⟨w.heap.size, 0, none⟩ = some (.int .i64 0) := hS.blk.cell 0
  have r1 : w1.cell? ⟨w.heap.size, 1, none⟩ = some (.string ⟨#[]⟩) := hS.blk.cell 1
  have r2 : w1.cell? ⟨w.heap.size, 2, none⟩ = some (.string ⟨#[]⟩) := hS.blk.cell 2
  have r3 : w1.cell? ⟨w.heap.size, 3, none⟩ = some (.int .i64 0) := hS.blk.cell 3
  have r4 : w1.cell? ⟨w.heap.size, 4, none⟩ = some (.int .i64 0) := hS.blk.cell 4
  have r5 : w1.cell? ⟨w.heap.size, 5, none⟩ = some (.int .i64 0) := hS.blk.cell 5
  have r6 : w1.cell? ⟨w.heap.size, 6, none⟩ = some (.int .i64 0) := hS.blk.cell 6
  have r7 : w1.cell? ⟨w.heap.size, 7, none⟩ = some (.int .i64 0) := hS.blk.cell 7
  have r8 : w1.cell? ⟨w.heap.size, 8, none⟩ = some (.int .i64 0) := hS.blk.cell 8
  have r9 : w1.cell? ⟨w.heap.size, 9, none⟩ = some (.int .i64 0) := hS.blk.cell 9
  have r10 : w1.cell? ⟨w.heap.size, 10, none⟩ = some (.string ⟨#[]⟩) := hS.blk.cell 10
  have r11 : w1.cell? ⟨w.heap.size, 11, none⟩ = some (.string ⟨#[]⟩) := hS.blk.cell 11
  have fr := hS.blk.frozen
  have hz := hS.blk.lt
  have hB := hS.below
  have hne : w.heap.size ≠ w1.heap.size := by omega
  clear hq
  go_wp2_with fail
  exact bodyPost_ret (v := .tuple #[.agg #[.int .i64 0, .string ⟨#[]⟩, .string ⟨#[]⟩, .int .i64 0, .int .i64 0, .int .i64 0, .int .i64 0, .int .i64 0, .int .i64 0, .int .i64 0, .string ⟨#[]⟩, .string ⟨#[]⟩], .bool false]) (pkO_results _ _ w.heap.size rfl rfl ((set12 hS.blk (.int .i64 0) (.string ⟨#[]⟩) (.string ⟨#[]⟩) (.int .i64 0) (.int .i64 0) (.int .i64 0) (.int .i64 0) (.int .i64 0) (.int .i64 0) (.int .i64 0) (.string ⟨#[]⟩) (.string ⟨#[]⟩)).alloc _)) rfl ⟨rfl, (below12 hB (Nat.le_refl _) (.int .i64 0) (.string ⟨#[]⟩) (.string ⟨#[]⟩) (.int .i64 0) (.int .i64 0) (.int .i64 0) (.int .i64 0) (.int .i64 0) (.int .i64 0) (.int .i64 0) (.string ⟨#[]⟩) (.string ⟨#[]⟩)).alloc (by simp; omega) _⟩
set_option maxRecDepth 100000 in
set_option maxHeartbeats 1600000 in
theorem packetOf_noip (s : ByteArray) (w : World) (E : Int) (d r : ByteArray) (vl pr ty : Int) (b : ByteArray) (v : Int) (src dst : ByteArray) (proto hops cls id flags off label : Int) (opt body : ByteArray) (hE : (E != 0) = true)
    (A : ∀ W, Calls Try.prog 65 #[.string s] W fun e w' => e = .returned (.tuple #[.agg #[.string d, .string r, .int .i64 vl, .int .i64 pr, .int .i64 ty, .string b], .int .i64 0]) ∧ Below W.heap.size W w')
    (AI : ∀ W, Calls Try.prog 66 #[.string b] W fun e w' => e = .returned (.tuple #[.agg #[.int .i64 v, .string src, .string dst, .int .i64 proto, .int .i64 hops, .int .i64 cls, .int .i64 id, .int .i64 flags, .int .i64 off, .int .i64 label, .string opt, .string body], .int .i64 E]) ∧ Below W.heap.size W w') : Calls Try.prog 28 #[.string s] w (OfPk w #[.int .i64 0, .string ⟨#[]⟩, .string ⟨#[]⟩, .int .i64 0, .int .i64 0, .int .i64 0, .int .i64 0, .int .i64 0, .int .i64 0, .int .i64 0, .string ⟨#[]⟩, .string ⟨#[]⟩] false) := by
  have HA := Lib.hid A
  have HI := Lib.hid AI
  clear A AI
  go_enter Try.func28, Try.ntmps28
  go_wp2_with fail
  refine (HA.out _).mono ?_
  rintro e w1 ⟨rfl, hq⟩
  have hS1 := (Held.new w 36 #[.int .i64 0, .string ⟨#[]⟩, .string ⟨#[]⟩, .int .i64 0, .int .i64 0, .int .i64 0, .int .i64 0, .int .i64 0, .int .i64 0, .int .i64 0, .string ⟨#[]⟩, .string ⟨#[]⟩]).next hq
  clear hq
  go_wp2_with fail
  refine (HI.out _).mono ?_
  rintro e w2 ⟨rfl, hq⟩
  have hz1 := hS1.blk.lt
  have hS : Held w 36 #[.int .i64 0, .string ⟨#[]⟩, .string ⟨#[]⟩, .int .i64 0, .int .i64 0, .int .i64 0, .int .i64 0, .int .i64 0, .int .i64 0, .int .i64 0, .string ⟨#[]⟩, .string ⟨#[]⟩] w2 := ⟨(hS1.blk.alloc _).same (hq.block _ (by simp; omega)), (hS1.below.alloc (by omega) _).trans (hq.mono (by simp; omega))⟩
  have hF2 : Blk w2 w1.heap.size 44 #[.string d, .string r, .int .i64 vl, .int .i64 pr, .int .i64 ty, .string b] := (Blk.new w1 44 _).same (hq.block _ (by simp))
  clear hq hS1
  have r0 : w2.cell? ⟨w.heap.size, 0, none⟩ = some (.int .i64 0) := hS.blk.cell 0
  have r1 : w2.cell? ⟨w.heap.size, 1, none⟩ = some (.string ⟨#[]⟩) := hS.blk.cell 1
  have r2 : w2.cell? ⟨w.heap.size, 2, none⟩ = some (.string ⟨#[]⟩) := hS.blk.cell 2
  have r3 : w2.cell? ⟨w.heap.size, 3, none⟩ = some (.int .i64 0) := hS.blk.cell 3
  have r4 : w2.cell? ⟨w.heap.size, 4, none⟩ = some (.int .i64 0) := hS.blk.cell 4
  have r5 : w2.cell? ⟨w.heap.size, 5, none⟩ = some (.int .i64 0) := hS.blk.cell 5
  have r6 : w2.cell? ⟨w.heap.size, 6, none⟩ = some (.int .i64 0) := hS.blk.cell 6
  have r7 : w2.cell? ⟨w.heap.size, 7, none⟩ = some (.int .i64 0) := hS.blk.cell 7
  have r8 : w2.cell? ⟨w.heap.size, 8, none⟩ = some (.int .i64 0) := hS.blk.cell 8
  have r9 : w2.cell? ⟨w.heap.size, 9, none⟩ = some (.int .i64 0) := hS.blk.cell 9
  have r10 : w2.cell? ⟨w.heap.size, 10, none⟩ = some (.string ⟨#[]⟩) := hS.blk.cell 10
  have r11 : w2.cell? ⟨w.heap.size, 11, none⟩ = some (.string ⟨#[]⟩) := hS.blk.cell 11
  have fr := hS.blk.frozen
  have hz := hS.blk.lt
  have hB := hS.below
  have hne : w.heap.size ≠ w2.heap.size := by omega
  have f4 : w2.cell? ⟨w1.heap.size, 4, none⟩ = some (.int .i64 ty) := hF2.cell 4
  have hzf := hF2.lt
  have hne2 : w1.heap.size ≠ w2.heap.size := by omega
  go_wp2_with fail
  go_quiet (fail)
  go_wp2_with fail
  exact bodyPost_ret (v := .tuple #[.agg #[.int .i64 0, .string ⟨#[]⟩, .string ⟨#[]⟩, .int .i64 0, .int .i64 0, .int .i64 0, .int .i64 0, .int .i64 0, .int .i64 0, .int .i64 0, .string ⟨#[]⟩, .string ⟨#[]⟩], .bool false]) (pkO_results _ _ w.heap.size rfl rfl (set12 (w := (w2.alloc (.cells #[.int .i64 v, .string src, .string dst, .int .i64 proto, .int .i64 hops, .int .i64 cls, .int .i64 id, .int .i64 flags, .int .i64 off, .int .i64 label, .string opt, .string body] 36)).drewN nq) (hS.blk.alloc _) (.int .i64 0) (.string ⟨#[]⟩) (.string ⟨#[]⟩) (.int .i64 0) (.int .i64 0) (.int .i64 0) (.int .i64 0) (.int .i64 0) (.int .i64 0) (.int .i64 0) (.string ⟨#[]⟩) (.string ⟨#[]⟩))) rfl ⟨rfl, below12 (w := (w2.alloc (.cells #[.int .i64 v, .string src, .string dst, .int .i64 proto, .int .i64 hops, .int .i64 cls, .int .i64 id, .int .i64 flags, .int .i64 off, .int .i64 label, .string opt, .string body] 36)).drewN nq) (below_drewN (hB.alloc (by omega) _) nq) (Nat.le_refl _) (.int .i64 0) (.string ⟨#[]⟩) (.string ⟨#[]⟩) (.int .i64 0) (.int .i64 0) (.int .i64 0) (.int .i64 0) (.int .i64 0) (.int .i64 0) (.int .i64 0) (.string ⟨#[]⟩) (.string ⟨#[]⟩)⟩
set_option maxRecDepth 100000 in
set_option maxHeartbeats 1600000 in
theorem packetOf_ver (s : ByteArray) (w : World) (d r : ByteArray) (vl pr ty : Int) (b : ByteArray) (v : Int) (src dst : ByteArray) (proto hops cls id flags off label : Int) (opt body : ByteArray) (hV : (v != verV ty) = true)
    (A : ∀ W, Calls Try.prog 65 #[.string s] W fun e w' => e = .returned (.tuple #[.agg #[.string d, .string r, .int .i64 vl, .int .i64 pr, .int .i64 ty, .string b], .int .i64 0]) ∧ Below W.heap.size W w')
    (AI : ∀ W, Calls Try.prog 66 #[.string b] W fun e w' => e = .returned (.tuple #[.agg #[.int .i64 v, .string src, .string dst, .int .i64 proto, .int .i64 hops, .int .i64 cls, .int .i64 id, .int .i64 flags, .int .i64 off, .int .i64 label, .string opt, .string body], .int .i64 0]) ∧ Below W.heap.size W w') : Calls Try.prog 28 #[.string s] w (OfPk w #[.int .i64 0, .string ⟨#[]⟩, .string ⟨#[]⟩, .int .i64 0, .int .i64 0, .int .i64 0, .int .i64 0, .int .i64 0, .int .i64 0, .int .i64 0, .string ⟨#[]⟩, .string ⟨#[]⟩] false) := by
  have HA := Lib.hid A
  have HI := Lib.hid AI
  clear A AI
  go_enter Try.func28, Try.ntmps28
  go_wp2_with fail
  refine (HA.out _).mono ?_
  rintro e w1 ⟨rfl, hq⟩
  have hS1 := (Held.new w 36 #[.int .i64 0, .string ⟨#[]⟩, .string ⟨#[]⟩, .int .i64 0, .int .i64 0, .int .i64 0, .int .i64 0, .int .i64 0, .int .i64 0, .int .i64 0, .string ⟨#[]⟩, .string ⟨#[]⟩]).next hq
  clear hq
  go_wp2_with fail
  refine (HI.out _).mono ?_
  rintro e w2 ⟨rfl, hq⟩
  have hz1 := hS1.blk.lt
  have hS : Held w 36 #[.int .i64 0, .string ⟨#[]⟩, .string ⟨#[]⟩, .int .i64 0, .int .i64 0, .int .i64 0, .int .i64 0, .int .i64 0, .int .i64 0, .int .i64 0, .string ⟨#[]⟩, .string ⟨#[]⟩] w2 := ⟨(hS1.blk.alloc _).same (hq.block _ (by simp; omega)), (hS1.below.alloc (by omega) _).trans (hq.mono (by simp; omega))⟩
  have hF2 : Blk w2 w1.heap.size 44 #[.string d, .string r, .int .i64 vl, .int .i64 pr, .int .i64 ty, .string b] := (Blk.new w1 44 _).same (hq.block _ (by simp))
  clear hq hS1
  have r0 : w2.cell? ⟨w.heap.size, 0, none⟩ = some (.int .i64 0) := hS.blk.cell 0
  have r1 : w2.cell? ⟨w.heap.size, 1, none⟩ = some (.string ⟨#[]⟩) := hS.blk.cell 1
  have r2 : w2.cell? ⟨w.heap.size, 2, none⟩ = some (.string ⟨#[]⟩) := hS.blk.cell 2
  have r3 : w2.cell? ⟨w.heap.size, 3, none⟩ = some (.int .i64 0) := hS.blk.cell 3
  have r4 : w2.cell? ⟨w.heap.size, 4, none⟩ = some (.int .i64 0) := hS.blk.cell 4
  have r5 : w2.cell? ⟨w.heap.size, 5, none⟩ = some (.int .i64 0) := hS.blk.cell 5
  have r6 : w2.cell? ⟨w.heap.size, 6, none⟩ = some (.int .i64 0) := hS.blk.cell 6
  have r7 : w2.cell? ⟨w.heap.size, 7, none⟩ = some (.int .i64 0) := hS.blk.cell 7
  have r8 : w2.cell? ⟨w.heap.size, 8, none⟩ = some (.int .i64 0) := hS.blk.cell 8
  have r9 : w2.cell? ⟨w.heap.size, 9, none⟩ = some (.int .i64 0) := hS.blk.cell 9
  have r10 : w2.cell? ⟨w.heap.size, 10, none⟩ = some (.string ⟨#[]⟩) := hS.blk.cell 10
  have r11 : w2.cell? ⟨w.heap.size, 11, none⟩ = some (.string ⟨#[]⟩) := hS.blk.cell 11
  have fr := hS.blk.frozen
  have hz := hS.blk.lt
  have hB := hS.below
  have hne : w.heap.size ≠ w2.heap.size := by omega
  have f4 : w2.cell? ⟨w1.heap.size, 4, none⟩ = some (.int .i64 ty) := hF2.cell 4
  have hzf := hF2.lt
  have hne2 : w1.heap.size ≠ w2.heap.size := by omega
  go_wp2_with fail
  go_quiet ((go_at_call 67; exact quiet_left (ver_any _ _)))
  go_wp2_with fail
  exact bodyPost_ret (v := .tuple #[.agg #[.int .i64 0, .string ⟨#[]⟩, .string ⟨#[]⟩, .int .i64 0, .int .i64 0, .int .i64 0, .int .i64 0, .int .i64 0, .int .i64 0, .int .i64 0, .string ⟨#[]⟩, .string ⟨#[]⟩], .bool false]) (pkO_results _ _ w.heap.size rfl rfl (set12 (w := (w2.alloc (.cells #[.int .i64 v, .string src, .string dst, .int .i64 proto, .int .i64 hops, .int .i64 cls, .int .i64 id, .int .i64 flags, .int .i64 off, .int .i64 label, .string opt, .string body] 36)).drewN nq) (hS.blk.alloc _) (.int .i64 0) (.string ⟨#[]⟩) (.string ⟨#[]⟩) (.int .i64 0) (.int .i64 0) (.int .i64 0) (.int .i64 0) (.int .i64 0) (.int .i64 0) (.int .i64 0) (.string ⟨#[]⟩) (.string ⟨#[]⟩))) rfl ⟨rfl, below12 (w := (w2.alloc (.cells #[.int .i64 v, .string src, .string dst, .int .i64 proto, .int .i64 hops, .int .i64 cls, .int .i64 id, .int .i64 flags, .int .i64 off, .int .i64 label, .string opt, .string body] 36)).drewN nq) (below_drewN (hB.alloc (by omega) _) nq) (Nat.le_refl _) (.int .i64 0) (.string ⟨#[]⟩) (.string ⟨#[]⟩) (.int .i64 0) (.int .i64 0) (.int .i64 0) (.int .i64 0) (.int .i64 0) (.int .i64 0) (.int .i64 0) (.string ⟨#[]⟩) (.string ⟨#[]⟩)⟩
set_option maxRecDepth 100000 in
set_option maxHeartbeats 1600000 in
theorem packetOf_good (s : ByteArray) (w : World) (d r : ByteArray) (vl pr ty : Int) (b : ByteArray) (v : Int) (src dst : ByteArray) (proto hops cls id flags off label : Int) (opt body : ByteArray) (hV : (v != verV ty) = false)
    (A : ∀ W, Calls Try.prog 65 #[.string s] W fun e w' => e = .returned (.tuple #[.agg #[.string d, .string r, .int .i64 vl, .int .i64 pr, .int .i64 ty, .string b], .int .i64 0]) ∧ Below W.heap.size W w')
    (AI : ∀ W, Calls Try.prog 66 #[.string b] W fun e w' => e = .returned (.tuple #[.agg #[.int .i64 v, .string src, .string dst, .int .i64 proto, .int .i64 hops, .int .i64 cls, .int .i64 id, .int .i64 flags, .int .i64 off, .int .i64 label, .string opt, .string body], .int .i64 0]) ∧ Below W.heap.size W w') : Calls Try.prog 28 #[.string s] w (OfPk w #[.int .i64 v, .string src, .string dst, .int .i64 proto, .int .i64 hops, .int .i64 cls, .int .i64 id, .int .i64 flags, .int .i64 off, .int .i64 label, .string opt, .string body] true) := by
  have HA := Lib.hid A
  have HI := Lib.hid AI
  clear A AI
  go_enter Try.func28, Try.ntmps28
  go_wp2_with fail
  refine (HA.out _).mono ?_
  rintro e w1 ⟨rfl, hq⟩
  have hS1 := (Held.new w 36 #[.int .i64 0, .string ⟨#[]⟩, .string ⟨#[]⟩, .int .i64 0, .int .i64 0, .int .i64 0, .int .i64 0, .int .i64 0, .int .i64 0, .int .i64 0, .string ⟨#[]⟩, .string ⟨#[]⟩]).next hq
  clear hq
  go_wp2_with fail
  refine (HI.out _).mono ?_
  rintro e w2 ⟨rfl, hq⟩
  have hz1 := hS1.blk.lt
  have hS : Held w 36 #[.int .i64 0, .string ⟨#[]⟩, .string ⟨#[]⟩, .int .i64 0, .int .i64 0, .int .i64 0, .int .i64 0, .int .i64 0, .int .i64 0, .int .i64 0, .string ⟨#[]⟩, .string ⟨#[]⟩] w2 := ⟨(hS1.blk.alloc _).same (hq.block _ (by simp; omega)), (hS1.below.alloc (by omega) _).trans (hq.mono (by simp; omega))⟩
  have hF2 : Blk w2 w1.heap.size 44 #[.string d, .string r, .int .i64 vl, .int .i64 pr, .int .i64 ty, .string b] := (Blk.new w1 44 _).same (hq.block _ (by simp))
  clear hq hS1
  have r0 : w2.cell? ⟨w.heap.size, 0, none⟩ = some (.int .i64 0) := hS.blk.cell 0
  have r1 : w2.cell? ⟨w.heap.size, 1, none⟩ = some (.string ⟨#[]⟩) := hS.blk.cell 1
  have r2 : w2.cell? ⟨w.heap.size, 2, none⟩ = some (.string ⟨#[]⟩) := hS.blk.cell 2
  have r3 : w2.cell? ⟨w.heap.size, 3, none⟩ = some (.int .i64 0) := hS.blk.cell 3
  have r4 : w2.cell? ⟨w.heap.size, 4, none⟩ = some (.int .i64 0) := hS.blk.cell 4
  have r5 : w2.cell? ⟨w.heap.size, 5, none⟩ = some (.int .i64 0) := hS.blk.cell 5
  have r6 : w2.cell? ⟨w.heap.size, 6, none⟩ = some (.int .i64 0) := hS.blk.cell 6
  have r7 : w2.cell? ⟨w.heap.size, 7, none⟩ = some (.int .i64 0) := hS.blk.cell 7
  have r8 : w2.cell? ⟨w.heap.size, 8, none⟩ = some (.int .i64 0) := hS.blk.cell 8
  have r9 : w2.cell? ⟨w.heap.size, 9, none⟩ = some (.int .i64 0) := hS.blk.cell 9
  have r10 : w2.cell? ⟨w.heap.size, 10, none⟩ = some (.string ⟨#[]⟩) := hS.blk.cell 10
  have r11 : w2.cell? ⟨w.heap.size, 11, none⟩ = some (.string ⟨#[]⟩) := hS.blk.cell 11
  have fr := hS.blk.frozen
  have hz := hS.blk.lt
  have hB := hS.below
  have hne : w.heap.size ≠ w2.heap.size := by omega
  have f4 : w2.cell? ⟨w1.heap.size, 4, none⟩ = some (.int .i64 ty) := hF2.cell 4
  have hzf := hF2.lt
  have hne2 : w1.heap.size ≠ w2.heap.size := by omega
  go_wp2_with fail
  go_quiet ((go_at_call 67; exact quiet_left (ver_any _ _)))
  go_wp2_with fail
  exact bodyPost_ret (v := .tuple #[.agg #[.int .i64 v, .string src, .string dst, .int .i64 proto, .int .i64 hops, .int .i64 cls, .int .i64 id, .int .i64 flags, .int .i64 off, .int .i64 label, .string opt, .string body], .bool true]) (pkO_results _ _ w.heap.size rfl rfl (set12 (w := (w2.alloc (.cells #[.int .i64 v, .string src, .string dst, .int .i64 proto, .int .i64 hops, .int .i64 cls, .int .i64 id, .int .i64 flags, .int .i64 off, .int .i64 label, .string opt, .string body] 36)).drewN nq) (hS.blk.alloc _) (.int .i64 v) (.string src) (.string dst) (.int .i64 proto) (.int .i64 hops) (.int .i64 cls) (.int .i64 id) (.int .i64 flags) (.int .i64 off) (.int .i64 label) (.string opt) (.string body))) rfl ⟨rfl, below12 (w := (w2.alloc (.cells #[.int .i64 v, .string src, .string dst, .int .i64 proto, .int .i64 hops, .int .i64 cls, .int .i64 id, .int .i64 flags, .int .i64 off, .int .i64 label, .string opt, .string body] 36)).drewN nq) (below_drewN (hB.alloc (by omega) _) nq) (Nat.le_refl _) (.int .i64 v) (.string src) (.string dst) (.int .i64 proto) (.int .i64 hops) (.int .i64 cls) (.int .i64 id) (.int .i64 flags) (.int .i64 off) (.int .i64 label) (.string opt) (.string body)⟩
/-- The packet in a frame of its version. -/
def pkOk (s : ByteArray) : Prop := parseE s = 0 ∧ ipE (parseF s).b = 0 ∧ (ipP (parseF s).b).v = verV (parseF s).t
instance (s : ByteArray) : Decidable (pkOk s) := inferInstanceAs (Decidable (_ ∧ _ ∧ _))
def pkIn (s : ByteArray) : Pk := if pkOk s then ipP (parseF s).b else .zero
theorem parseF_b_le (s : ByteArray) : (parseF s).b.size ≤ s.size := by
  unfold parseF readF
  split
  · split
    · exact Nat.zero_le _
    · split
      · split
        · exact Nat.zero_le _
        · show (tail s 18).size ≤ _; rw [tail_size]; omega
      · show (tail s 14).size ≤ _; rw [tail_size]; omega
  · exact Nat.zero_le _
theorem parseF_b_max (s : ByteArray) : (parseF s).b.size ≤ 1518 := by
  by_cases h : parseE s = 0
  · exact Nat.le_trans (parseF_b_le s) (parse_is h).1
  · rw [parseF, if_neg h]; exact Nat.zero_le _
theorem packetOf_any (s : ByteArray) (w : World) : Calls Try.prog 28 #[.string s] w (OfPk w (pkC (pkIn s)) (decide (pkOk s))) := by
  have A := fun W => parse_any s W
  have hbz := parseF_b_max s
  rcases hf : parseF s with ⟨d, r, vl, pr, ty, b⟩
  have AI := fun W => parseI_any (parseF s).b W (by omega)
  by_cases h1 : parseE s = 0
  · rw [h1] at A
    by_cases h2 : ipE (parseF s).b = 0
    · rw [h2] at AI
      by_cases h3 : (ipP (parseF s).b).v = verV (parseF s).t
      · have e : pkOk s := ⟨h1, h2, h3⟩
        rw [decide_eq_true e, pkIn, if_pos e]
        rw [hf] at A AI h3 ⊢
        exact packetOf_good s w _ _ _ _ _ _ _ _ _ _ _ _ _ _ _ _ _ _ (by simpa using h3) A AI
      · have e : ¬ pkOk s := fun h => h3 h.2.2
        rw [decide_eq_false e, pkIn, if_neg e]
        rw [hf] at A AI h3
        exact packetOf_ver s w _ _ _ _ _ _ _ _ _ _ _ _ _ _ _ _ _ _ (by simpa using h3) A AI
    · have e : ¬ pkOk s := fun h => h2 h.2.1
      rw [decide_eq_false e, pkIn, if_neg e]
      rw [hf] at A AI h2
      exact packetOf_noip s w _ _ _ _ _ _ _ _ _ _ _ _ _ _ _ _ _ _ _ (by simpa using h2) A AI
  · have e : ¬ pkOk s := fun h => h1 h.1
    rw [decide_eq_false e, pkIn, if_neg e]
    rw [hf] at A
    exact packetOf_bad s w _ _ _ _ _ _ _ (by simpa using h1) A
set_option maxRecDepth 100000 in
set_option maxHeartbeats 1600000 in
theorem hasSum_walk (v : Int) (src dst : ByteArray) (proto hops cls id flags off label : Int) (opt body : ByteArray) (w : World) (E : Int) (k : Bool) (hE : (E == 0) = k) (g : Sg)
    (A : ∀ W, Calls Try.prog 68 #[.agg #[.int .i64 v, .string src, .string dst, .int .i64 proto, .int .i64 hops, .int .i64 cls, .int .i64 id, .int .i64 flags, .int .i64 off, .int .i64 label, .string opt, .string body]] W (SaysG W #[.int .i64 g.src, .int .i64 g.dst, .int .u32 g.seq, .int .u32 g.ack, .int .i64 g.flags, .int .i64 g.win, .int .i64 g.urgent, .string g.opt, .string g.body, .bool g.nosum] E)) : Calls Try.prog 29 #[.agg #[.int .i64 v, .string src, .string dst, .int .i64 proto, .int .i64 hops, .int .i64 cls, .int .i64 id, .int .i64 flags, .int .i64 off, .int .i64 label, .string opt, .string body]] w fun e w' => e = .returned (.bool (k && !g.nosum)) ∧ Below w.heap.size w w' := by
  have HA := Lib.hid A
  clear A
  cases k
  · go_enter Try.func29, Try.ntmps29
    go_wp2_with fail
    refine (HA.out _).mono ?_
    rintro e w1 ⟨rfl, hq⟩
    have hS := (Held.new w 36 #[.int .i64 v, .string src, .string dst, .int .i64 proto, .int .i64 hops, .int .i64 cls, .int .i64 id, .int .i64 flags, .int .i64 off, .int .i64 label, .string opt, .string body]).next hq
    clear hq
    go_wp2_with fail
    go_ret
    exact ⟨rfl, hS.below.alloc hS.below.size _⟩
  · go_enter Try.func29, Try.ntmps29
    go_wp2_with fail
    refine (HA.out _).mono ?_
    rintro e w1 ⟨rfl, hq⟩
    have hS := (Held.new w 36 #[.int .i64 v, .string src, .string dst, .int .i64 proto, .int .i64 hops, .int .i64 cls, .int .i64 id, .int .i64 flags, .int .i64 off, .int .i64 label, .string opt, .string body]).next hq
    clear hq
    go_wp2_with fail
    go_ret
    exact ⟨rfl, hS.below.alloc hS.below.size _⟩
def sumB (p : Pk) : Bool := (segPE p == 0) && !(segPG p).nosum
theorem hasSum_any (p : Pk) (w : World) (hb : p.body.size ≤ 65535) : Calls Try.prog 29 #[.agg (pkC p)] w fun e w' => e = .returned (.bool (sumB p)) ∧ Below w.heap.size w w' :=
  hasSum_walk _ _ _ _ _ _ _ _ _ _ _ _ w _ _ rfl (segPG p) (fun W => parseS_any p W hb)
end Go.Proofs.Ytalkpllmcigjnaa
namespace Go.Proofs.Ytalkpllmcigjnaa
open Go.RowKit

theorem offO_results (w : World) (tmps : Array Value) (gf : Nat) {x : ByteArray} (h2 : tmps[2]?.getD undef = .pointer (some ⟨gf, 0, none⟩)) (h3 : tmps[3]?.getD undef = .string x) (h : Hd)
    (hF : Blk w gf 23 (hdL h)) : (results Try.f17 tmps).run Try.prog w = .ok (.tuple #[.agg (hdL h), .string x]) w := by
  have c0 := hF.cell 0
  have c1 := hF.cell 1
  have c2 := hF.cell 2
  have c3 := hF.cell 3
  have c4 := hF.cell 4
  have c5 := hF.cell 5
  have c6 := hF.cell 6
  simp only [hdL] at c0 c1 c2 c3 c4 c5 c6
  simp [results, Try.results17, go_sem, h2, h3, c0, c1, c2, c3, c4, c5, c6, hdL]
theorem hAt_exact (v : Int) (src dst : ByteArray) (proto hops cls id flags off label : Int) (opt body : ByteArray) (w : World) : Calls Try.prog 30 #[.agg #[.int .i64 v, .string src, .string dst, .int .i64 proto, .int .i64 hops, .int .i64 cls, .int .i64 id, .int .i64 flags, .int .i64 off, .int .i64 label, .string opt, .string body]] w fun e w' => e = .returned (.int .i64 (atV proto)) ∧ w' = w.alloc (.cells #[.int .i64 v, .string src, .string dst, .int .i64 proto, .int .i64 hops, .int .i64 cls, .int .i64 id, .int .i64 flags, .int .i64 off, .int .i64 label, .string opt, .string body] 36) := by
  unfold atV
  by_cases h : proto = 6
  · subst h
    go_enter Try.func30, Try.ntmps30
    go_wp2
    go_ret
    exact ⟨rfl, rfl⟩
  · rw [if_neg h]
    have e : (proto == 6) = false := by simpa using h
    go_enter Try.func30, Try.ntmps30
    go_wp2
    go_ret
    exact ⟨rfl, rfl⟩
def OffIs (w : World) (h : Hd) (x : ByteArray) (e : Ending) (w' : World) : Prop := e = .returned (.tuple #[.agg (hdL h), .string x]) ∧ Below w.heap.size w w'
set_option maxRecDepth 100000 in
set_option maxHeartbeats 1600000 in
theorem off_nopk (s : ByteArray) (w : World) (v : Int) (src dst : ByteArray) (proto hops cls id flags off label : Int) (opt body : ByteArray)
    (A : ∀ W, Calls Try.prog 28 #[.string s] W fun e w' => e = .returned (.tuple #[.agg #[.int .i64 v, .string src, .string dst, .int .i64 proto, .int .i64 hops, .int .i64 cls, .int .i64 id, .int .i64 flags, .int .i64 off, .int .i64 label, .string opt, .string body], .bool false]) ∧ Below W.heap.size W w') : Calls Try.prog 17 #[.string s] w (OffIs w .zero s) := by
  have HA := Lib.hid A
  clear A
  go_enter Try.func17, Try.ntmps17
  go_wp2_with fail
  refine (HA.out _).mono ?_
  rintro e w1 ⟨rfl, hq⟩
  have hS := (Held.new w 23 #[.int .i64 0, .int .i64 0, .int .i64 0, .int .i64 0, .int .i64 0, .int .i64 0, .int .i64 0]).next hq
  have r0 : w1.cell? ⟨w.heap.size, 0, none⟩ = some (.int .i64 0) := hS.blk.cell 0
  have r1 : w1.cell? ⟨w.heap.size, 1, none⟩ = some (.int .i64 0) := hS.blk.cell 1
  have r2 : w1.cell? ⟨w.heap.size, 2, none⟩ = some (.int .i64 0) := hS.blk.cell 2
  have r3 : w1.cell? ⟨w.heap.size, 3, none⟩ = some (.int .i64 0) := hS.blk.cell 3
  have r4 : w1.cell? ⟨w.heap.size, 4, none⟩ = some (.int .i64 0) := hS.blk.cell 4
  have r5 : w1.cell? ⟨w.heap.size, 5, none⟩ = some (.int .i64 0) := hS.blk.cell 5
  have r6 : w1.cell? ⟨w.heap.size, 6, none⟩ = some (.int .i64 0) := hS.blk.cell 6
  have fr := hS.blk.frozen
  have hz := hS.blk.lt
  have hB := hS.below
  have hne : w.heap.size ≠ w1.heap.size := by omega
  clear hq
  go_wp2_with fail
  exact bodyPost_ret (v := .tuple #[.agg (hdL .zero), .string s]) (offO_results _ _ w.heap.size rfl rfl .zero ((set7 hS.blk (.int .i64 0) (.int .i64 0) (.int .i64 0) (.int .i64 0) (.int .i64 0) (.int .i64 0) (.int .i64 0)).alloc _)) rfl ⟨rfl, (below7 hB (Nat.le_refl _) (.int .i64 0) (.int .i64 0) (.int .i64 0) (.int .i64 0) (.int .i64 0) (.int .i64 0) (.int .i64 0)).alloc (by simp; omega) _⟩
set_option maxRecDepth 100000 in
set_option maxHeartbeats 1600000 in
theorem off_nosum (s : ByteArray) (w : World) (v : Int) (src dst : ByteArray) (proto hops cls id flags off label : Int) (opt body : ByteArray)
    (A : ∀ W, Calls Try.prog 28 #[.string s] W fun e w' => e = .returned (.tuple #[.agg #[.int .i64 v, .string src, .string dst, .int .i64 proto, .int .i64 hops, .int .i64 cls, .int .i64 id, .int .i64 flags, .int .i64 off, .int .i64 label, .string opt, .string body], .bool true]) ∧ Below W.heap.size W w')
    (A2 : ∀ W, Calls Try.prog 29 #[.agg #[.int .i64 v, .string src, .string dst, .int .i64 proto, .int .i64 hops, .int .i64 cls, .int .i64 id, .int .i64 flags, .int .i64 off, .int .i64 label, .string opt, .string body]] W fun e w' => e = .returned (.bool false) ∧ Below W.heap.size W w') : Calls Try.prog 17 #[.string s] w (OffIs w .zero s) := by
  have HA := Lib.hid A
  have H2 := Lib.hid A2
  clear A A2
  go_enter Try.func17, Try.ntmps17
  go_wp2_with fail
  refine (HA.out _).mono ?_
  rintro e w1 ⟨rfl, hq⟩
  have hS1 := (Held.new w 23 #[.int .i64 0, .int .i64 0, .int .i64 0, .int .i64 0, .int .i64 0, .int .i64 0, .int .i64 0]).next hq
  have hz1 := hS1.blk.lt
  clear hq
  go_wp2_with fail
  refine (H2.out _).mono ?_
  rintro e w2 ⟨rfl, hq⟩
  have hS : Held w 23 #[.int .i64 0, .int .i64 0, .int .i64 0, .int .i64 0, .int .i64 0, .int .i64 0, .int .i64 0] w2 := ⟨(hS1.blk.alloc _).same (hq.block _ (by simp; omega)), (hS1.below.alloc (by omega) _).trans (hq.mono (by simp; omega))⟩
  have hP : Blk w2 w1.heap.size 36 #[.int .i64 v, .string src, .string dst, .int .i64 proto, .int .i64 hops, .int .i64 cls, .int .i64 id, .int .i64 flags, .int .i64 off, .int .i64 label, .string opt, .string body] := (Blk.new w1 36 _).same (hq.block _ (by simp))
  clear hq hS1
  have r0 : w2.cell? ⟨w.heap.size, 0, none⟩ = some (.int .i64 0) := hS.blk.cell 0
  have r1 : w2.cell? ⟨w.heap.size, 1, none⟩ = some (.int .i64 0) := hS.blk.cell 1
  have r2 : w2.cell? ⟨w.heap.size, 2, none⟩ = some (.int .i64 0) := hS.blk.cell 2
  have r3 : w2.cell? ⟨w.heap.size, 3, none⟩ = some (.int .i64 0) := hS.blk.cell 3
  have r4 : w2.cell? ⟨w.heap.size, 4, none⟩ = some (.int .i64 0) := hS.blk.cell 4
  have r5 : w2.cell? ⟨w.heap.size, 5, none⟩ = some (.int .i64 0) := hS.blk.cell 5
  have r6 : w2.cell? ⟨w.heap.size, 6, none⟩ = some (.int .i64 0) := hS.blk.cell 6
  have fr := hS.blk.frozen
  have hz := hS.blk.lt
  have hB := hS.below
  have hzp := hP.lt
  go_wp2_with fail
  exact bodyPost_ret (v := .tuple #[.agg (hdL .zero), .string s]) (offO_results _ _ w.heap.size rfl rfl .zero (set7 hS.blk (.int .i64 0) (.int .i64 0) (.int .i64 0) (.int .i64 0) (.int .i64 0) (.int .i64 0) (.int .i64 0))) rfl ⟨rfl, below7 hB (Nat.le_refl _) (.int .i64 0) (.int .i64 0) (.int .i64 0) (.int .i64 0) (.int .i64 0) (.int .i64 0) (.int .i64 0)⟩
/-- the packet's block and the result's, held -/
structure OB (w0 : World) (g : Nat) (pc : Array Value) (w : World) : Prop where
  res : Blk w w0.heap.size 23 #[.int .i64 0, .int .i64 0, .int .i64 0, .int .i64 0, .int .i64 0, .int .i64 0, .int .i64 0]
  p : Blk w g 36 pc
  below : Below w0.heap.size w0 w
  lt : w0.heap.size < g
theorem OB.next {w0 w w' : World} {g : Nat} {pc : Array Value} (h : OB w0 g pc w) (hq : Below w.heap.size w w') : OB w0 g pc w' :=
  ⟨h.res.same (hq.block _ h.res.lt), h.p.same (hq.block _ h.p.lt), h.below.trans (hq.mono (by have := h.res.lt; omega)), h.lt⟩
theorem OB.cells {w0 w : World} {g : Nat} {v : Int} {src dst : ByteArray} {proto hops cls id flags off label : Int} {opt body : ByteArray} (h : OB w0 g #[.int .i64 v, .string src, .string dst, .int .i64 proto, .int .i64 hops, .int .i64 cls, .int .i64 id, .int .i64 flags, .int .i64 off, .int .i64 label, .string opt, .string body] w) : (w.cell? ⟨g, 0, none⟩ = some (.int .i64 v) ∧ w.cell? ⟨g, 1, none⟩ = some (.string src) ∧ w.cell? ⟨g, 2, none⟩ = some (.string dst) ∧ w.cell? ⟨g, 3, none⟩ = some (.int .i64 proto) ∧ w.cell? ⟨g, 4, none⟩ = some (.int .i64 hops) ∧ w.cell? ⟨g, 5, none⟩ = some (.int .i64 cls) ∧ w.cell? ⟨g, 6, none⟩ = some (.int .i64 id) ∧ w.cell? ⟨g, 7, none⟩ = some (.int .i64 flags) ∧ w.cell? ⟨g, 8, none⟩ = some (.int .i64 off) ∧ w.cell? ⟨g, 9, none⟩ = some (.int .i64 label) ∧ w.cell? ⟨g, 10, none⟩ = some (.string opt) ∧ w.cell? ⟨g, 11, none⟩ = some (.string body)) :=
  ⟨h.p.cell 0, h.p.cell 1, h.p.cell 2, h.p.cell 3, h.p.cell 4, h.p.cell 5, h.p.cell 6, h.p.cell 7, h.p.cell 8, h.p.cell 9, h.p.cell 10, h.p.cell 11⟩
theorem ob_next {w0 w1 w' : World} {g : Nat} {v : Int} {src dst : ByteArray} {proto hops cls id flags off label : Int} {opt body : ByteArray} (h : (w1.cell? ⟨g, 0, none⟩ = some (.int .i64 v) ∧ w1.cell? ⟨g, 1, none⟩ = some (.string src) ∧ w1.cell? ⟨g, 2, none⟩ = some (.string dst) ∧ w1.cell? ⟨g, 3, none⟩ = some (.int .i64 proto) ∧ w1.cell? ⟨g, 4, none⟩ = some (.int .i64 hops) ∧ w1.cell? ⟨g, 5, none⟩ = some (.int .i64 cls) ∧ w1.cell? ⟨g, 6, none⟩ = some (.int .i64 id) ∧ w1.cell? ⟨g, 7, none⟩ = some (.int .i64 flags) ∧ w1.cell? ⟨g, 8, none⟩ = some (.int .i64 off) ∧ w1.cell? ⟨g, 9, none⟩ = some (.int .i64 label) ∧ w1.cell? ⟨g, 10, none⟩ = some (.string opt) ∧ w1.cell? ⟨g, 11, none⟩ = some (.string body)) ∧ OB w0 g #[.int .i64 v, .string src, .string dst, .int .i64 proto, .int .i64 hops, .int .i64 cls, .int .i64 id, .int .i64 flags, .int .i64 off, .int .i64 label, .string opt, .string body] w1) (hq : Below w1.heap.size w1 w') : (w'.cell? ⟨g, 0, none⟩ = some (.int .i64 v) ∧ w'.cell? ⟨g, 1, none⟩ = some (.string src) ∧ w'.cell? ⟨g, 2, none⟩ = some (.string dst) ∧ w'.cell? ⟨g, 3, none⟩ = some (.int .i64 proto) ∧ w'.cell? ⟨g, 4, none⟩ = some (.int .i64 hops) ∧ w'.cell? ⟨g, 5, none⟩ = some (.int .i64 cls) ∧ w'.cell? ⟨g, 6, none⟩ = some (.int .i64 id) ∧ w'.cell? ⟨g, 7, none⟩ = some (.int .i64 flags) ∧ w'.cell? ⟨g, 8, none⟩ = some (.int .i64 off) ∧ w'.cell? ⟨g, 9, none⟩ = some (.int .i64 label) ∧ w'.cell? ⟨g, 10, none⟩ = some (.string opt) ∧ w'.cell? ⟨g, 11, none⟩ = some (.string body)) ∧ OB w0 g #[.int .i64 v, .string src, .string dst, .int .i64 proto, .int .i64 hops, .int .i64 cls, .int .i64 id, .int .i64 flags, .int .i64 off, .int .i64 label, .string opt, .string body] w' := ⟨(h.2.next hq).cells, h.2.next hq⟩
theorem ob_drew {w0 w1 : World} {g : Nat} {v : Int} {src dst : ByteArray} {proto hops cls id flags off label : Int} {opt body : ByteArray} (h : (w1.cell? ⟨g, 0, none⟩ = some (.int .i64 v) ∧ w1.cell? ⟨g, 1, none⟩ = some (.string src) ∧ w1.cell? ⟨g, 2, none⟩ = some (.string dst) ∧ w1.cell? ⟨g, 3, none⟩ = some (.int .i64 proto) ∧ w1.cell? ⟨g, 4, none⟩ = some (.int .i64 hops) ∧ w1.cell? ⟨g, 5, none⟩ = some (.int .i64 cls) ∧ w1.cell? ⟨g, 6, none⟩ = some (.int .i64 id) ∧ w1.cell? ⟨g, 7, none⟩ = some (.int .i64 flags) ∧ w1.cell? ⟨g, 8, none⟩ = some (.int .i64 off) ∧ w1.cell? ⟨g, 9, none⟩ = some (.int .i64 label) ∧ w1.cell? ⟨g, 10, none⟩ = some (.string opt) ∧ w1.cell? ⟨g, 11, none⟩ = some (.string body)) ∧ OB w0 g #[.int .i64 v, .string src, .string dst, .int .i64 proto, .int .i64 hops, .int .i64 cls, .int .i64 id, .int .i64 flags, .int .i64 off, .int .i64 label, .string opt, .string body] w1) : (w1.drew.cell? ⟨g, 0, none⟩ = some (.int .i64 v) ∧ w1.drew.cell? ⟨g, 1, none⟩ = some (.string src) ∧ w1.drew.cell? ⟨g, 2, none⟩ = some (.string dst) ∧ w1.drew.cell? ⟨g, 3, none⟩ = some (.int .i64 proto) ∧ w1.drew.cell? ⟨g, 4, none⟩ = some (.int .i64 hops) ∧ w1.drew.cell? ⟨g, 5, none⟩ = some (.int .i64 cls) ∧ w1.drew.cell? ⟨g, 6, none⟩ = some (.int .i64 id) ∧ w1.drew.cell? ⟨g, 7, none⟩ = some (.int .i64 flags) ∧ w1.drew.cell? ⟨g, 8, none⟩ = some (.int .i64 off) ∧ w1.drew.cell? ⟨g, 9, none⟩ = some (.int .i64 label) ∧ w1.drew.cell? ⟨g, 10, none⟩ = some (.string opt) ∧ w1.drew.cell? ⟨g, 11, none⟩ = some (.string body)) ∧ OB w0 g #[.int .i64 v, .string src, .string dst, .int .i64 proto, .int .i64 hops, .int .i64 cls, .int .i64 id, .int .i64 flags, .int .i64 off, .int .i64 label, .string opt, .string body] w1.drew := ob_next h (Below.drew (Below.refl _ _))
theorem ob_alloc {w0 w1 : World} {g : Nat} {v : Int} {src dst : ByteArray} {proto hops cls id flags off label : Int} {opt body : ByteArray} (h : (w1.cell? ⟨g, 0, none⟩ = some (.int .i64 v) ∧ w1.cell? ⟨g, 1, none⟩ = some (.string src) ∧ w1.cell? ⟨g, 2, none⟩ = some (.string dst) ∧ w1.cell? ⟨g, 3, none⟩ = some (.int .i64 proto) ∧ w1.cell? ⟨g, 4, none⟩ = some (.int .i64 hops) ∧ w1.cell? ⟨g, 5, none⟩ = some (.int .i64 cls) ∧ w1.cell? ⟨g, 6, none⟩ = some (.int .i64 id) ∧ w1.cell? ⟨g, 7, none⟩ = some (.int .i64 flags) ∧ w1.cell? ⟨g, 8, none⟩ = some (.int .i64 off) ∧ w1.cell? ⟨g, 9, none⟩ = some (.int .i64 label) ∧ w1.cell? ⟨g, 10, none⟩ = some (.string opt) ∧ w1.cell? ⟨g, 11, none⟩ = some (.string body)) ∧ OB w0 g #[.int .i64 v, .string src, .string dst, .int .i64 proto, .int .i64 hops, .int .i64 cls, .int .i64 id, .int .i64 flags, .int .i64 off, .int .i64 label, .string opt, .string body] w1) (o : Obj) : ((w1.alloc o).cell? ⟨g, 0, none⟩ = some (.int .i64 v) ∧ (w1.alloc o).cell? ⟨g, 1, none⟩ = some (.string src) ∧ (w1.alloc o).cell? ⟨g, 2, none⟩ = some (.string dst) ∧ (w1.alloc o).cell? ⟨g, 3, none⟩ = some (.int .i64 proto) ∧ (w1.alloc o).cell? ⟨g, 4, none⟩ = some (.int .i64 hops) ∧ (w1.alloc o).cell? ⟨g, 5, none⟩ = some (.int .i64 cls) ∧ (w1.alloc o).cell? ⟨g, 6, none⟩ = some (.int .i64 id) ∧ (w1.alloc o).cell? ⟨g, 7, none⟩ = some (.int .i64 flags) ∧ (w1.alloc o).cell? ⟨g, 8, none⟩ = some (.int .i64 off) ∧ (w1.alloc o).cell? ⟨g, 9, none⟩ = some (.int .i64 label) ∧ (w1.alloc o).cell? ⟨g, 10, none⟩ = some (.string opt) ∧ (w1.alloc o).cell? ⟨g, 11, none⟩ = some (.string body)) ∧ OB w0 g #[.int .i64 v, .string src, .string dst, .int .i64 proto, .int .i64 hops, .int .i64 cls, .int .i64 id, .int .i64 flags, .int .i64 off, .int .i64 label, .string opt, .string body] (w1.alloc o) := ob_next h (Below.alloc (Below.refl _ _) (Nat.le_refl _) _)
set_option maxRecDepth 100000 in
set_option maxHeartbeats 3200000 in
theorem off_good (s : ByteArray) (w : World) (v : Int) (src dst : ByteArray) (proto hops cls id flags off label : Int) (opt body : ByteArray) (a : Nat) (ps : ByteArray) (sum : Int) (R : ByteArray) (hbs : body.size ≤ s.size) (hs : s.size ≤ 281474976710656) (ha : a ≤ 16) (hsum : 0 ≤ sum ∧ sum ≤ 65535)
    (A : ∀ W, Calls Try.prog 28 #[.string s] W fun e w' => e = .returned (.tuple #[.agg #[.int .i64 v, .string src, .string dst, .int .i64 proto, .int .i64 hops, .int .i64 cls, .int .i64 id, .int .i64 flags, .int .i64 off, .int .i64 label, .string opt, .string body], .bool true]) ∧ Below W.heap.size W w')
    (A2 : ∀ W, Calls Try.prog 29 #[.agg #[.int .i64 v, .string src, .string dst, .int .i64 proto, .int .i64 hops, .int .i64 cls, .int .i64 id, .int .i64 flags, .int .i64 off, .int .i64 label, .string opt, .string body]] W fun e w' => e = .returned (.bool true) ∧ Below W.heap.size W w')
    (A3 : ∀ W, Calls Try.prog 30 #[.agg #[.int .i64 v, .string src, .string dst, .int .i64 proto, .int .i64 hops, .int .i64 cls, .int .i64 id, .int .i64 flags, .int .i64 off, .int .i64 label, .string opt, .string body]] W fun e w' => e = .returned (.int .i64 a) ∧ w' = W.alloc (.cells #[.int .i64 v, .string src, .string dst, .int .i64 proto, .int .i64 hops, .int .i64 cls, .int .i64 id, .int .i64 flags, .int .i64 off, .int .i64 label, .string opt, .string body] 36))
    (A4 : ∀ W, Calls Try.prog 32 #[.agg #[.int .i64 v, .string src, .string dst, .int .i64 proto, .int .i64 hops, .int .i64 cls, .int .i64 id, .int .i64 flags, .int .i64 off, .int .i64 label, .string opt, .string body], .int .i64 body.size] W fun e w' => e = .returned (.string ps) ∧ Below W.heap.size W w')
    (A5 : ∀ W, Calls Try.prog 31 #[.int .u16 0, .string ps] W fun e w' => e = .returned (.int .u16 sum) ∧ Below W.heap.size W w')
    (A6 : ∀ W, Calls Try.prog 33 #[.string s, .int .i64 ((s.size : Int) - body.size + a), .int .u64 sum, .int .i64 2, .bool true] W fun e w' => e = .returned (.tuple #[.string R, .int .i64 0]) ∧ Below W.heap.size W w') :
    Calls Try.prog 17 #[.string s] w (OffIs w ⟨1, 0, 0, 0, (s.size : Int) - body.size, a, 0⟩ R) := by
  have H3 := Lib.hid A3
  have H4 := Lib.hid A4
  have H5 := Lib.hid A5
  obtain ⟨Y, hY, eY⟩ : ∃ Y : Int, (0 ≤ Y ∧ Y ≤ s.size) ∧ (s.size : Int) - body.size = Y := ⟨_, by omega, rfl⟩
  rw [eY] at A6 ⊢
  have wY : IntKind.i64.wrap Y = Y := IntWalk.i64_in _ (by omega)
  have wYa : IntKind.i64.wrap (Y + (a : Int)) = Y + (a : Int) := IntWalk.i64_in _ (by omega)
  have wS : IntKind.u64.wrap sum = sum := IntKind.wrap_u64 _ |>.trans (by omega)
  have H6 := Lib.hid A6
  clear A3 A4 A5 A6
  have HA := Lib.hid A
  have H2 := Lib.hid A2
  clear A A2
  go_enter Try.func17, Try.ntmps17
  go_wp2_with fail
  refine (HA.out _).mono ?_
  rintro e w1 ⟨rfl, hq⟩
  have hS1 := (Held.new w 23 #[.int .i64 0, .int .i64 0, .int .i64 0, .int .i64 0, .int .i64 0, .int .i64 0, .int .i64 0]).next hq
  have hz1 := hS1.blk.lt
  clear hq
  go_wp2_with fail
  refine (H2.out _).mono ?_
  rintro e w2 ⟨rfl, hq⟩
  have hS : Held w 23 #[.int .i64 0, .int .i64 0, .int .i64 0, .int .i64 0, .int .i64 0, .int .i64 0, .int .i64 0] w2 := ⟨(hS1.blk.alloc _).same (hq.block _ (by simp; omega)), (hS1.below.alloc (by omega) _).trans (hq.mono (by simp; omega))⟩
  have hP : Blk w2 w1.heap.size 36 #[.int .i64 v, .string src, .string dst, .int .i64 proto, .int .i64 hops, .int .i64 cls, .int .i64 id, .int .i64 flags, .int .i64 off, .int .i64 label, .string opt, .string body] := (Blk.new w1 36 _).same (hq.block _ (by simp))
  clear hq hS1
  have r0 : w2.cell? ⟨w.heap.size, 0, none⟩ = some (.int .i64 0) := hS.blk.cell 0
  have r1 : w2.cell? ⟨w.heap.size, 1, none⟩ = some (.int .i64 0) := hS.blk.cell 1
  have r2 : w2.cell? ⟨w.heap.size, 2, none⟩ = some (.int .i64 0) := hS.blk.cell 2
  have r3 : w2.cell? ⟨w.heap.size, 3, none⟩ = some (.int .i64 0) := hS.blk.cell 3
  have r4 : w2.cell? ⟨w.heap.size, 4, none⟩ = some (.int .i64 0) := hS.blk.cell 4
  have r5 : w2.cell? ⟨w.heap.size, 5, none⟩ = some (.int .i64 0) := hS.blk.cell 5
  have r6 : w2.cell? ⟨w.heap.size, 6, none⟩ = some (.int .i64 0) := hS.blk.cell 6
  have fr := hS.blk.frozen
  have hz := hS.blk.lt
  have hB := hS.below
  have hzp := hP.lt
  have hO : OB w w1.heap.size #[.int .i64 v, .string src, .string dst, .int .i64 proto, .int .i64 hops, .int .i64 cls, .int .i64 id, .int .i64 flags, .int .i64 off, .int .i64 label, .string opt, .string body] w2 := ⟨hS.blk, hP, hB, by omega⟩
  clear r0 r1 r2 r3 r4 r5 r6 fr hS hP
  go_wp2_with fail
  have b0 : (w2.cell? ⟨w1.heap.size, 0, none⟩ = some (.int .i64 v) ∧ w2.cell? ⟨w1.heap.size, 1, none⟩ = some (.string src) ∧ w2.cell? ⟨w1.heap.size, 2, none⟩ = some (.string dst) ∧ w2.cell? ⟨w1.heap.size, 3, none⟩ = some (.int .i64 proto) ∧ w2.cell? ⟨w1.heap.size, 4, none⟩ = some (.int .i64 hops) ∧ w2.cell? ⟨w1.heap.size, 5, none⟩ = some (.int .i64 cls) ∧ w2.cell? ⟨w1.heap.size, 6, none⟩ = some (.int .i64 id) ∧ w2.cell? ⟨w1.heap.size, 7, none⟩ = some (.int .i64 flags) ∧ w2.cell? ⟨w1.heap.size, 8, none⟩ = some (.int .i64 off) ∧ w2.cell? ⟨w1.heap.size, 9, none⟩ = some (.int .i64 label) ∧ w2.cell? ⟨w1.heap.size, 10, none⟩ = some (.string opt) ∧ w2.cell? ⟨w1.heap.size, 11, none⟩ = some (.string body)) ∧ OB w w1.heap.size #[.int .i64 v, .string src, .string dst, .int .i64 proto, .int .i64 hops, .int .i64 cls, .int .i64 id, .int .i64 flags, .int .i64 off, .int .i64 label, .string opt, .string body] w2 := ⟨hO.cells, hO⟩
  go_region_held3 (fun w' => (w'.cell? ⟨w1.heap.size, 0, none⟩ = some (.int .i64 v) ∧ w'.cell? ⟨w1.heap.size, 1, none⟩ = some (.string src) ∧ w'.cell? ⟨w1.heap.size, 2, none⟩ = some (.string dst) ∧ w'.cell? ⟨w1.heap.size, 3, none⟩ = some (.int .i64 proto) ∧ w'.cell? ⟨w1.heap.size, 4, none⟩ = some (.int .i64 hops) ∧ w'.cell? ⟨w1.heap.size, 5, none⟩ = some (.int .i64 cls) ∧ w'.cell? ⟨w1.heap.size, 6, none⟩ = some (.int .i64 id) ∧ w'.cell? ⟨w1.heap.size, 7, none⟩ = some (.int .i64 flags) ∧ w'.cell? ⟨w1.heap.size, 8, none⟩ = some (.int .i64 off) ∧ w'.cell? ⟨w1.heap.size, 9, none⟩ = some (.int .i64 label) ∧ w'.cell? ⟨w1.heap.size, 10, none⟩ = some (.string opt) ∧ w'.cell? ⟨w1.heap.size, 11, none⟩ = some (.string body)) ∧ OB w w1.heap.size #[.int .i64 v, .string src, .string dst, .int .i64 proto, .int .i64 hops, .int .i64 cls, .int .i64 id, .int .i64 flags, .int .i64 off, .int .i64 label, .string opt, .string body] w')
    (first | (with_reducible exact ob_drew b0) | (with_reducible exact ob_drew (ob_alloc b0 _)) | (with_reducible exact ob_drew (ob_alloc (ob_alloc b0 _) _)))
    (first | (go_at_call 30; (with_reducible refine (H3.out _).mono ?_); rintro e w' ⟨rfl, rfl⟩))
  · rename_i hH
    have hO3 := hH.2
    clear hH b0
    have hh : Blk ((w2.alloc (.cells #[.int .i64 v, .string src, .string dst, .int .i64 proto, .int .i64 hops, .int .i64 cls, .int .i64 id, .int .i64 flags, .int .i64 off, .int .i64 label, .string opt, .string body] 36)).alloc (.cells #[.int .i64 1, .int .i64 0, .int .i64 0, .int .i64 0, .int .i64 Y, .int .i64 a, .int .i64 0] 23)).drew (w2.heap.size + 1) 23 #[.int .i64 1, .int .i64 0, .int .i64 0, .int .i64 0, .int .i64 Y, .int .i64 a, .int .i64 0] := by
      have := (Blk.new (w2.alloc (.cells #[.int .i64 v, .string src, .string dst, .int .i64 proto, .int .i64 hops, .int .i64 cls, .int .i64 id, .int .i64 flags, .int .i64 off, .int .i64 label, .string opt, .string body] 36)) 23 #[.int .i64 1, .int .i64 0, .int .i64 0, .int .i64 0, .int .i64 Y, .int .i64 a, .int .i64 0]).drew
      simpa using this
    generalize hX : ((w2.alloc (.cells #[.int .i64 v, .string src, .string dst, .int .i64 proto, .int .i64 hops, .int .i64 cls, .int .i64 id, .int .i64 flags, .int .i64 off, .int .i64 label, .string opt, .string body] 36)).alloc (.cells #[.int .i64 1, .int .i64 0, .int .i64 0, .int .i64 0, .int .i64 Y, .int .i64 a, .int .i64 0] 23)).drew = X at *
    clear hX
    obtain ⟨k, hk⟩ : ∃ k, w2.heap.size + 1 = k := ⟨_, rfl⟩
    rw [hk] at hh
    simp only [hk]
    obtain ⟨c0, c1, c2, c3, c4, c5, c6, c7, c8, c9, c10, c11⟩ := hO3.cells
    go_wp2_with fail
    refine (H4.out _).mono ?_
    rintro e w4 ⟨rfl, hq⟩
    have hO4 := hO3.next hq
    have hh4 := hh.same (hq.block _ hh.lt)
    clear hq hO3 hh c0 c1 c2 c3 c4 c5 c6 c7 c8 c9 c10 c11
    go_wp2_with fail
    refine (H5.out _).mono ?_
    rintro e w5 ⟨rfl, hq⟩
    have hO5 := hO4.next hq
    have hh5 := hh4.same (hq.block _ hh4.lt)
    clear hq hO4 hh4
    have g0 : w5.cell? ⟨k, 0, none⟩ = some (.int .i64 1) := hh5.cell 0
    have g1 : w5.cell? ⟨k, 1, none⟩ = some (.int .i64 0) := hh5.cell 1
    have g2 : w5.cell? ⟨k, 2, none⟩ = some (.int .i64 0) := hh5.cell 2
    have g3 : w5.cell? ⟨k, 3, none⟩ = some (.int .i64 0) := hh5.cell 3
    have g4 : w5.cell? ⟨k, 4, none⟩ = some (.int .i64 Y) := hh5.cell 4
    have g5 : w5.cell? ⟨k, 5, none⟩ = some (.int .i64 a) := hh5.cell 5
    have g6 : w5.cell? ⟨k, 6, none⟩ = some (.int .i64 0) := hh5.cell 6
    go_wp2_with fail
    refine (H6.out _).mono ?_
    rintro e w6 ⟨rfl, hq⟩
    have hO6 := hO5.next hq
    have hh6 := hh5.same (hq.block _ hh5.lt)
    clear hq hO5 hh5 g0 g1 g2 g3 g4 g5 g6
    have g0 : w6.cell? ⟨k, 0, none⟩ = some (.int .i64 1) := hh6.cell 0
    have g1 : w6.cell? ⟨k, 1, none⟩ = some (.int .i64 0) := hh6.cell 1
    have g2 : w6.cell? ⟨k, 2, none⟩ = some (.int .i64 0) := hh6.cell 2
    have g3 : w6.cell? ⟨k, 3, none⟩ = some (.int .i64 0) := hh6.cell 3
    have g4 : w6.cell? ⟨k, 4, none⟩ = some (.int .i64 Y) := hh6.cell 4
    have g5 : w6.cell? ⟨k, 5, none⟩ = some (.int .i64 a) := hh6.cell 5
    have g6 : w6.cell? ⟨k, 6, none⟩ = some (.int .i64 0) := hh6.cell 6
    have r0 : w6.cell? ⟨w.heap.size, 0, none⟩ = some (.int .i64 0) := hO6.res.cell 0
    have r1 : w6.cell? ⟨w.heap.size, 1, none⟩ = some (.int .i64 0) := hO6.res.cell 1
    have r2 : w6.cell? ⟨w.heap.size, 2, none⟩ = some (.int .i64 0) := hO6.res.cell 2
    have r3 : w6.cell? ⟨w.heap.size, 3, none⟩ = some (.int .i64 0) := hO6.res.cell 3
    have r4 : w6.cell? ⟨w.heap.size, 4, none⟩ = some (.int .i64 0) := hO6.res.cell 4
    have r5 : w6.cell? ⟨w.heap.size, 5, none⟩ = some (.int .i64 0) := hO6.res.cell 5
    have r6 : w6.cell? ⟨w.heap.size, 6, none⟩ = some (.int .i64 0) := hO6.res.cell 6
    have fr := hO6.res.frozen
    go_wp2_with fail
    exact bodyPost_ret (v := .tuple #[.agg (hdL ⟨1, 0, 0, 0, Y, a, 0⟩), .string R]) (offO_results _ _ w.heap.size rfl rfl ⟨1, 0, 0, 0, Y, a, 0⟩ (set7 hO6.res (.int .i64 1) (.int .i64 0) (.int .i64 0) (.int .i64 0) (.int .i64 Y) (.int .i64 a) (.int .i64 0))) rfl ⟨rfl, below7 hO6.below (Nat.le_refl _) (.int .i64 1) (.int .i64 0) (.int .i64 0) (.int .i64 0) (.int .i64 Y) (.int .i64 a) (.int .i64 0)⟩
  · rename_i hH
    have hO3 := hH.2
    clear hH b0
    have hh : Blk ((w2.alloc (.cells #[.int .i64 1, .int .i64 0, .int .i64 0, .int .i64 0, .int .i64 Y, .int .i64 a, .int .i64 0] 23)).alloc (.cells #[.int .i64 v, .string src, .string dst, .int .i64 proto, .int .i64 hops, .int .i64 cls, .int .i64 id, .int .i64 flags, .int .i64 off, .int .i64 label, .string opt, .string body] 36)).drew w2.heap.size 23 #[.int .i64 1, .int .i64 0, .int .i64 0, .int .i64 0, .int .i64 Y, .int .i64 a, .int .i64 0] := ((Blk.new w2 23 #[.int .i64 1, .int .i64 0, .int .i64 0, .int .i64 0, .int .i64 Y, .int .i64 a, .int .i64 0]).alloc _).drew
    generalize hX : ((w2.alloc (.cells #[.int .i64 1, .int .i64 0, .int .i64 0, .int .i64 0, .int .i64 Y, .int .i64 a, .int .i64 0] 23)).alloc (.cells #[.int .i64 v, .string src, .string dst, .int .i64 proto, .int .i64 hops, .int .i64 cls, .int .i64 id, .int .i64 flags, .int .i64 off, .int .i64 label, .string opt, .string body] 36)).drew = X at *
    clear hX
    obtain ⟨k, hk⟩ : ∃ k, w2.heap.size = k := ⟨_, rfl⟩
    rw [hk] at hh
    simp only [hk]
    obtain ⟨c0, c1, c2, c3, c4, c5, c6, c7, c8, c9, c10, c11⟩ := hO3.cells
    go_wp2_with fail
    refine (H4.out _).mono ?_
    rintro e w4 ⟨rfl, hq⟩
    have hO4 := hO3.next hq
    have hh4 := hh.same (hq.block _ hh.lt)
    clear hq hO3 hh c0 c1 c2 c3 c4 c5 c6 c7 c8 c9 c10 c11
    go_wp2_with fail
    refine (H5.out _).mono ?_
    rintro e w5 ⟨rfl, hq⟩
    have hO5 := hO4.next hq
    have hh5 := hh4.same (hq.block _ hh4.lt)
    clear hq hO4 hh4
    have g0 : w5.cell? ⟨k, 0, none⟩ = some (.int .i64 1) := hh5.cell 0
    have g1 : w5.cell? ⟨k, 1, none⟩ = some (.int .i64 0) := hh5.cell 1
    have g2 : w5.cell? ⟨k, 2, none⟩ = some (.int .i64 0) := hh5.cell 2
    have g3 : w5.cell? ⟨k, 3, none⟩ = some (.int .i64 0) := hh5.cell 3
    have g4 : w5.cell? ⟨k, 4, none⟩ = some (.int .i64 Y) := hh5.cell 4
    have g5 : w5.cell? ⟨k, 5, none⟩ = some (.int .i64 a) := hh5.cell 5
    have g6 : w5.cell? ⟨k, 6, none⟩ = some (.int .i64 0) := hh5.cell 6
    go_wp2_with fail
    refine (H6.out _).mono ?_
    rintro e w6 ⟨rfl, hq⟩
    have hO6 := hO5.next hq
    have hh6 := hh5.same (hq.block _ hh5.lt)
    clear hq hO5 hh5 g0 g1 g2 g3 g4 g5 g6
    have g0 : w6.cell? ⟨k, 0, none⟩ = some (.int .i64 1) := hh6.cell 0
    have g1 : w6.cell? ⟨k, 1, none⟩ = some (.int .i64 0) := hh6.cell 1
    have g2 : w6.cell? ⟨k, 2, none⟩ = some (.int .i64 0) := hh6.cell 2
    have g3 : w6.cell? ⟨k, 3, none⟩ = some (.int .i64 0) := hh6.cell 3
    have g4 : w6.cell? ⟨k, 4, none⟩ = some (.int .i64 Y) := hh6.cell 4
    have g5 : w6.cell? ⟨k, 5, none⟩ = some (.int .i64 a) := hh6.cell 5
    have g6 : w6.cell? ⟨k, 6, none⟩ = some (.int .i64 0) := hh6.cell 6
    have r0 : w6.cell? ⟨w.heap.size, 0, none⟩ = some (.int .i64 0) := hO6.res.cell 0
    have r1 : w6.cell? ⟨w.heap.size, 1, none⟩ = some (.int .i64 0) := hO6.res.cell 1
    have r2 : w6.cell? ⟨w.heap.size, 2, none⟩ = some (.int .i64 0) := hO6.res.cell 2
    have r3 : w6.cell? ⟨w.heap.size, 3, none⟩ = some (.int .i64 0) := hO6.res.cell 3
    have r4 : w6.cell? ⟨w.heap.size, 4, none⟩ = some (.int .i64 0) := hO6.res.cell 4
    have r5 : w6.cell? ⟨w.heap.size, 5, none⟩ = some (.int .i64 0) := hO6.res.cell 5
    have r6 : w6.cell? ⟨w.heap.size, 6, none⟩ = some (.int .i64 0) := hO6.res.cell 6
    have fr := hO6.res.frozen
    go_wp2_with fail
    exact bodyPost_ret (v := .tuple #[.agg (hdL ⟨1, 0, 0, 0, Y, a, 0⟩), .string R]) (offO_results _ _ w.heap.size rfl rfl ⟨1, 0, 0, 0, Y, a, 0⟩ (set7 hO6.res (.int .i64 1) (.int .i64 0) (.int .i64 0) (.int .i64 0) (.int .i64 Y) (.int .i64 a) (.int .i64 0))) rfl ⟨rfl, below7 hO6.below (Nat.le_refl _) (.int .i64 1) (.int .i64 0) (.int .i64 0) (.int .i64 0) (.int .i64 Y) (.int .i64 a) (.int .i64 0)⟩
end Go.Proofs.Ytalkpllmcigjnaa
namespace Go.Proofs.Ytalkpllmcigjnaa
open Go.RowKit

/-- Is a sum left? -/
def offOk (s : ByteArray) : Prop := pkOk s ∧ sumB (pkIn s) = true
instance (s : ByteArray) : Decidable (offOk s) := inferInstanceAs (Decidable (_ ∧ _))
def offAt (s : ByteArray) : Nat := s.size - (pkIn s).body.size
def offH (s : ByteArray) : Hd := if offOk s then ⟨1, 0, 0, 0, (s.size : Int) - (pkIn s).body.size, atV (pkIn s).proto, 0⟩ else .zero
def offS (s : ByteArray) : ByteArray := if offOk s then withS s (offAt s + atV (pkIn s).proto) (onS 0 (pseudoB (pkIn s) (pkIn s).body.size)) else s
theorem ipP_body (s : ByteArray) : (ipP s).body.size ≤ s.size := by
  unfold ipP
  split
  · split
    · show (s.extract (n4 s) s.size).size ≤ _
      rw [ByteArray.size_extract]; omega
    · show (s.extract 40 s.size).size ≤ _
      rw [ByteArray.size_extract]; omega
  · exact Nat.zero_le _
theorem pkIn_body (s : ByteArray) : (pkIn s).body.size ≤ s.size ∧ (pkIn s).body.size ≤ 1518 := by
  unfold pkIn
  split
  · have := ipP_body (parseF s).b
    exact ⟨Nat.le_trans this (parseF_b_le s), Nat.le_trans this (parseF_b_max s)⟩
  · exact ⟨Nat.zero_le _, by decide⟩
theorem seg_fits {p : Pk} (h : segPE p = 0) : canB p = true ∧ atV p.proto + 2 ≤ p.body.size := by
  unfold segPE at h
  split at h
  · rename_i hc
    refine ⟨hc, ?_⟩
    split at h
    · rename_i h6
      rw [atV, if_pos h6]
      unfold tcpE at h
      split at h
      · cases h
      · omega
    · rename_i h6
      rw [atV, if_neg h6]
      unfold udpE at h
      split at h
      · cases h
      · omega
  · cases h
theorem sumB_iff {p : Pk} : sumB p = true ↔ segPE p = 0 ∧ (segPG p).nosum = false := by
  unfold sumB
  rw [Bool.and_eq_true, beq_iff_eq, Bool.not_eq_true']
theorem pseudo_any (p : Pk) (W : World) (hc : canB p = true) (hb : p.body.size ≤ 65535) :
    Calls Try.prog 32 #[.agg #[.int .i64 p.v, .string p.src, .string p.dst, .int .i64 p.proto, .int .i64 p.hops, .int .i64 p.cls, .int .i64 p.id, .int .i64 p.flags, .int .i64 p.off, .int .i64 p.label, .string p.opt, .string p.body], .int .i64 p.body.size] W fun e w' => e = .returned (.string (pseudoB p p.body.size)) ∧ Below W.heap.size W w' := by
  obtain ⟨h1, h2, _, _⟩ := canB_iff.1 hc
  have hp : 0 ≤ p.proto ∧ p.proto ≤ 255 := by omega
  obtain ⟨v, src, dst, proto, hops, cls, id, flags, off, label, opt, body⟩ := p
  simp only at *
  rcases h1 with ⟨rfl, h3, h4⟩ | ⟨rfl, h3, h4⟩
  · exact pseudo_4 src dst proto hops cls id flags off label opt body body.size W h3 h4 hp (by omega)
  · exact pseudo_6 src dst proto hops cls id flags off label opt body body.size W h3 h4 hp (by omega)
theorem pseudoB_size {p : Pk} (hc : canB p = true) (n : Int) : (pseudoB p n).size ≤ 40 := by
  obtain ⟨h1, _⟩ := canB_iff.1 hc
  unfold pseudoB
  split <;> simp only [ByteArray.size_append, bs_size] <;> omega
theorem offload_any (s : ByteArray) (w : World) (hs : s.size ≤ 281474976710656) : Calls Try.prog 17 #[.string s] w (OffIs w (offH s) (offS s)) := by
  have A := fun W => packetOf_any s W
  by_cases h1 : pkOk s
  · rw [decide_eq_true h1] at A
    obtain ⟨hb1, hb2⟩ := pkIn_body s
    have A2 := fun W => hasSum_any (pkIn s) W (by omega)
    by_cases h2 : sumB (pkIn s) = true
    · have e : offOk s := ⟨h1, h2⟩
      rw [h2] at A2
      rw [offH, offS, if_pos e, if_pos e, offAt]
      obtain ⟨g1, g2⟩ := seg_fits (sumB_iff.1 h2).1
      have hps := pseudoB_size g1 (pkIn s).body.size
      have hsum := onS_range (pseudoB (pkIn s) (pkIn s).body.size) 0 (by omega) (by omega)
      have A6 : ∀ W, Calls Try.prog 33 #[.string s, .int .i64 ((s.size : Int) - (pkIn s).body.size + atV (pkIn s).proto), .int .u64 (onS 0 (pseudoB (pkIn s) (pkIn s).body.size)), .int .i64 2, .bool true] W fun e w' => e = .returned (.tuple #[.string (withS s (s.size - (pkIn s).body.size + atV (pkIn s).proto) (onS 0 (pseudoB (pkIn s) (pkIn s).body.size))), .int .i64 0]) ∧ Below W.heap.size W w' := fun W => by
        have := setS2 s (s.size - (pkIn s).body.size + atV (pkIn s).proto) (onS 0 (pseudoB (pkIn s) (pkIn s).body.size)) W hs (by omega) hsum.1 hsum.2
        rw [show ((s.size - (pkIn s).body.size + atV (pkIn s).proto : Nat) : Int) = (s.size : Int) - (pkIn s).body.size + atV (pkIn s).proto by omega] at this
        exact this
      exact off_good s w _ _ _ _ _ _ _ _ _ _ _ _ _ _ _ _ hb1 hs (by unfold atV; split <;> omega) hsum A A2 (fun W => hAt_exact _ _ _ _ _ _ _ _ _ _ _ _ W) (fun W => pseudo_any (pkIn s) W g1 (by omega)) (fun W => on_any 0 _ W (by omega) (by omega) (by unfold maxLen; omega)) A6
    · have e : ¬ offOk s := fun h => h2 h.2
      have h2' : sumB (pkIn s) = false := by simpa using h2
      rw [h2'] at A2
      rw [offH, offS, if_neg e, if_neg e]
      exact off_nosum s w _ _ _ _ _ _ _ _ _ _ _ _ A A2
  · have e : ¬ offOk s := fun h => h1 h.1
    rw [decide_eq_false h1] at A
    rw [offH, offS, if_neg e, if_neg e]
    exact off_nopk s w _ _ _ _ _ _ _ _ _ _ _ _ A
end Go.Proofs.Ytalkpllmcigjnaa

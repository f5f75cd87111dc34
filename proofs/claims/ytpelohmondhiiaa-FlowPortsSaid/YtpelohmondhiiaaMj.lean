/-
  Flows: what the document's Of answers.
-/
import Derived.Test.YtpelohmondhiiaaMi
namespace Go.Proofs.Ytpelohmondhiiaa
open Go.RowKit

set_option maxRecDepth 100000 in
set_option maxHeartbeats 1600000 in
theorem rof_bad (s : ByteArray) (w : World) (E : Int) (d r : ByteArray) (vl pr ty : Int) (b : ByteArray) (hE : (E != 0) = true)
    (A : ∀ W, Calls Try.prog 26 #[.string s] W fun e w' => e = .returned (.tuple #[.agg #[.string d, .string r, .int .i64 vl, .int .i64 pr, .int .i64 ty, .string b], .int .i64 E]) ∧ Below W.heap.size W w') : Calls Try.prog 11 #[.string s] w (OfIs w 0 ⟨#[]⟩) := by
  have HA := Lib.hid A
  clear A
  go_enter Try.func11, Try.ntmps11
  go_wp2_with fail
  refine (HA.out _).mono ?_
  rintro e w1 ⟨rfl, hq⟩
  have hS := (Held.new w 24 #[.int .i64 0, .string ⟨#[]⟩]).next hq
  clear hq
  obtain ⟨r0, r1⟩ : w1.cell? ⟨w.heap.size, 0, none⟩ = some (.int .i64 0) ∧ w1.cell? ⟨w.heap.size, 1, none⟩ = some (.string ⟨#[]⟩) := ⟨hS.blk.cell 0, hS.blk.cell 1⟩
  have fr := hS.blk.frozen
  have hz := hS.blk.lt
  have hB := hS.below
  have hB2 := hB
  have hne : w.heap.size ≠ w1.heap.size := by omega
  clear hS
  go_wp2_with fail
  refine bodyPost_ret (v := .agg #[.int .i64 0, .string ⟨#[]⟩]) (by simp [results, Try.results11, go_sem, r0, r1, hz]) rfl ⟨rfl, ?_⟩
  (with_reducible (repeat' (first | exact hB | exact hB2 | exact Below.refl _ _ | refine below_drewN ?_ _ | refine Below.drew ?_ | refine Below.alloc ?_ (by first | (simp; done) | (simp; omega) | omega) _ | refine Below.setCell ?_ (by first | (simp; done) | (simp; omega) | omega) _)))
set_option maxRecDepth 100000 in
set_option maxHeartbeats 1600000 in
theorem rof_type (s : ByteArray) (w : World) (d r : ByteArray) (vl pr ty : Int) (b : ByteArray) (h1 : (ty != 2048) = true) (h2 : (ty != 34525) = true)
    (A : ∀ W, Calls Try.prog 26 #[.string s] W fun e w' => e = .returned (.tuple #[.agg #[.string d, .string r, .int .i64 vl, .int .i64 pr, .int .i64 ty, .string b], .int .i64 0]) ∧ Below W.heap.size W w') : Calls Try.prog 11 #[.string s] w (OfIs w 0 ⟨#[]⟩) := by
  have HA := Lib.hid A
  clear A
  go_enter Try.func11, Try.ntmps11
  go_wp2_with fail
  refine (HA.out _).mono ?_
  rintro e w1 ⟨rfl, hq⟩
  have hS := (Held.new w 24 #[.int .i64 0, .string ⟨#[]⟩]).next hq
  clear hq
  obtain ⟨r0, r1⟩ : w1.cell? ⟨w.heap.size, 0, none⟩ = some (.int .i64 0) ∧ w1.cell? ⟨w.heap.size, 1, none⟩ = some (.string ⟨#[]⟩) := ⟨hS.blk.cell 0, hS.blk.cell 1⟩
  have fr := hS.blk.frozen
  have hz := hS.blk.lt
  have hB := hS.below
  have hB2 := hB
  have hne : w.heap.size ≠ w1.heap.size := by omega
  clear hS
  go_wp2_with fail
  refine bodyPost_ret (v := .agg #[.int .i64 0, .string ⟨#[]⟩]) (by simp [results, Try.results11, go_sem, r0, r1, hz]) rfl ⟨rfl, ?_⟩
  (with_reducible (repeat' (first | exact hB | exact hB2 | exact Below.refl _ _ | refine below_drewN ?_ _ | refine Below.drew ?_ | refine Below.alloc ?_ (by first | (simp; done) | (simp; omega) | omega) _ | refine Below.setCell ?_ (by first | (simp; done) | (simp; omega) | omega) _)))
set_option maxRecDepth 100000 in
set_option maxHeartbeats 1600000 in
theorem rof_noip_2048 (s : ByteArray) (w : World) (E : Int) (d r : ByteArray) (vl pr : Int) (b : ByteArray) (v : Int) (src dst : ByteArray) (proto hops cls id flags off label : Int) (opt body : ByteArray) (hE : (E != 0) = true)
    (A : ∀ W, Calls Try.prog 26 #[.string s] W fun e w' => e = .returned (.tuple #[.agg #[.string d, .string r, .int .i64 vl, .int .i64 pr, .int .i64 2048, .string b], .int .i64 0]) ∧ Below W.heap.size W w') (AI : ∀ W, Calls Try.prog 27 #[.string b] W fun e w' => e = .returned (.tuple #[.agg #[.int .i64 v, .string src, .string dst, .int .i64 proto, .int .i64 hops, .int .i64 cls, .int .i64 id, .int .i64 flags, .int .i64 off, .int .i64 label, .string opt, .string body], .int .i64 E]) ∧ Below W.heap.size W w') : Calls Try.prog 11 #[.string s] w (OfIs w 0 ⟨#[]⟩) := by
  have HA := Lib.hid A
  have HI := Lib.hid AI
  clear A AI
  go_enter Try.func11, Try.ntmps11
  go_wp2_with fail
  refine (HA.out _).mono ?_
  rintro e w1 ⟨rfl, hq⟩
  have hS := (Held.new w 24 #[.int .i64 0, .string ⟨#[]⟩]).next hq
  clear hq
  go_wp2_with fail
  refine (HI.out _).mono ?_
  rintro e w2 ⟨rfl, hq⟩
  have hz1 := hS.blk.lt
  have hS2 : Held w 24 #[.int .i64 0, .string ⟨#[]⟩] w2 := ⟨(hS.blk.alloc _).same (hq.block _ (by simp; omega)), (hS.below.alloc (by omega) _).trans (hq.mono (by simp; omega))⟩
  have hF2 : Blk w2 w1.heap.size 48 #[.string d, .string r, .int .i64 vl, .int .i64 pr, .int .i64 2048, .string b] := (Blk.new w1 48 _).same (hq.block _ (by simp))
  clear hq hS
  obtain ⟨r0, r1⟩ : w2.cell? ⟨w.heap.size, 0, none⟩ = some (.int .i64 0) ∧ w2.cell? ⟨w.heap.size, 1, none⟩ = some (.string ⟨#[]⟩) := ⟨hS2.blk.cell 0, hS2.blk.cell 1⟩
  have fr := hS2.blk.frozen
  have hz := hS2.blk.lt
  have hB := hS2.below
  have hB2 := hB
  have hne : w.heap.size ≠ w2.heap.size := by omega
  have f4 : w2.cell? ⟨w1.heap.size, 4, none⟩ = some (.int .i64 2048) := hF2.cell 4
  have hzf := hF2.lt
  have hne2 : w1.heap.size ≠ w2.heap.size := by omega
  go_wp2_with fail
  refine bodyPost_ret (v := .agg #[.int .i64 0, .string ⟨#[]⟩]) (by simp [results, Try.results11, go_sem, r0, r1, hz]) rfl ⟨rfl, ?_⟩
  (with_reducible (repeat' (first | exact hB | exact hB2 | exact Below.refl _ _ | refine below_drewN ?_ _ | refine Below.drew ?_ | refine Below.alloc ?_ (by first | (simp; done) | (simp; omega) | omega) _ | refine Below.setCell ?_ (by first | (simp; done) | (simp; omega) | omega) _)))
set_option maxRecDepth 100000 in
set_option maxHeartbeats 1600000 in
theorem rof_noip_34525 (s : ByteArray) (w : World) (E : Int) (d r : ByteArray) (vl pr : Int) (b : ByteArray) (v : Int) (src dst : ByteArray) (proto hops cls id flags off label : Int) (opt body : ByteArray) (hE : (E != 0) = true)
    (A : ∀ W, Calls Try.prog 26 #[.string s] W fun e w' => e = .returned (.tuple #[.agg #[.string d, .string r, .int .i64 vl, .int .i64 pr, .int .i64 34525, .string b], .int .i64 0]) ∧ Below W.heap.size W w') (AI : ∀ W, Calls Try.prog 27 #[.string b] W fun e w' => e = .returned (.tuple #[.agg #[.int .i64 v, .string src, .string dst, .int .i64 proto, .int .i64 hops, .int .i64 cls, .int .i64 id, .int .i64 flags, .int .i64 off, .int .i64 label, .string opt, .string body], .int .i64 E]) ∧ Below W.heap.size W w') : Calls Try.prog 11 #[.string s] w (OfIs w 0 ⟨#[]⟩) := by
  have HA := Lib.hid A
  have HI := Lib.hid AI
  clear A AI
  go_enter Try.func11, Try.ntmps11
  go_wp2_with fail
  refine (HA.out _).mono ?_
  rintro e w1 ⟨rfl, hq⟩
  have hS := (Held.new w 24 #[.int .i64 0, .string ⟨#[]⟩]).next hq
  clear hq
  go_wp2_with fail
  refine (HI.out _).mono ?_
  rintro e w2 ⟨rfl, hq⟩
  have hz1 := hS.blk.lt
  have hS2 : Held w 24 #[.int .i64 0, .string ⟨#[]⟩] w2 := ⟨(hS.blk.alloc _).same (hq.block _ (by simp; omega)), (hS.below.alloc (by omega) _).trans (hq.mono (by simp; omega))⟩
  have hF2 : Blk w2 w1.heap.size 48 #[.string d, .string r, .int .i64 vl, .int .i64 pr, .int .i64 34525, .string b] := (Blk.new w1 48 _).same (hq.block _ (by simp))
  clear hq hS
  obtain ⟨r0, r1⟩ : w2.cell? ⟨w.heap.size, 0, none⟩ = some (.int .i64 0) ∧ w2.cell? ⟨w.heap.size, 1, none⟩ = some (.string ⟨#[]⟩) := ⟨hS2.blk.cell 0, hS2.blk.cell 1⟩
  have fr := hS2.blk.frozen
  have hz := hS2.blk.lt
  have hB := hS2.below
  have hB2 := hB
  have hne : w.heap.size ≠ w2.heap.size := by omega
  have f4 : w2.cell? ⟨w1.heap.size, 4, none⟩ = some (.int .i64 34525) := hF2.cell 4
  have hzf := hF2.lt
  have hne2 : w1.heap.size ≠ w2.heap.size := by omega
  go_wp2_with fail
  refine bodyPost_ret (v := .agg #[.int .i64 0, .string ⟨#[]⟩]) (by simp [results, Try.results11, go_sem, r0, r1, hz]) rfl ⟨rfl, ?_⟩
  (with_reducible (repeat' (first | exact hB | exact hB2 | exact Below.refl _ _ | refine below_drewN ?_ _ | refine Below.drew ?_ | refine Below.alloc ?_ (by first | (simp; done) | (simp; omega) | omega) _ | refine Below.setCell ?_ (by first | (simp; done) | (simp; omega) | omega) _)))
set_option maxRecDepth 100000 in
set_option maxHeartbeats 1600000 in
theorem rof_ver_2048 (s : ByteArray) (w : World) (d r : ByteArray) (vl pr : Int) (b : ByteArray) (src dst : ByteArray) (proto hops cls id flags off label : Int) (opt body : ByteArray)
    (A : ∀ W, Calls Try.prog 26 #[.string s] W fun e w' => e = .returned (.tuple #[.agg #[.string d, .string r, .int .i64 vl, .int .i64 pr, .int .i64 2048, .string b], .int .i64 0]) ∧ Below W.heap.size W w') (AI : ∀ W, Calls Try.prog 27 #[.string b] W fun e w' => e = .returned (.tuple #[.agg #[.int .i64 6, .string src, .string dst, .int .i64 proto, .int .i64 hops, .int .i64 cls, .int .i64 id, .int .i64 flags, .int .i64 off, .int .i64 label, .string opt, .string body], .int .i64 0]) ∧ Below W.heap.size W w') : Calls Try.prog 11 #[.string s] w (OfIs w 0 ⟨#[]⟩) := by
  have HA := Lib.hid A
  have HI := Lib.hid AI
  clear A AI
  go_enter Try.func11, Try.ntmps11
  go_wp2_with fail
  refine (HA.out _).mono ?_
  rintro e w1 ⟨rfl, hq⟩
  have hS := (Held.new w 24 #[.int .i64 0, .string ⟨#[]⟩]).next hq
  clear hq
  go_wp2_with fail
  refine (HI.out _).mono ?_
  rintro e w2 ⟨rfl, hq⟩
  have hz1 := hS.blk.lt
  have hS2 : Held w 24 #[.int .i64 0, .string ⟨#[]⟩] w2 := ⟨(hS.blk.alloc _).same (hq.block _ (by simp; omega)), (hS.below.alloc (by omega) _).trans (hq.mono (by simp; omega))⟩
  have hF2 : Blk w2 w1.heap.size 48 #[.string d, .string r, .int .i64 vl, .int .i64 pr, .int .i64 2048, .string b] := (Blk.new w1 48 _).same (hq.block _ (by simp))
  clear hq hS
  obtain ⟨r0, r1⟩ : w2.cell? ⟨w.heap.size, 0, none⟩ = some (.int .i64 0) ∧ w2.cell? ⟨w.heap.size, 1, none⟩ = some (.string ⟨#[]⟩) := ⟨hS2.blk.cell 0, hS2.blk.cell 1⟩
  have fr := hS2.blk.frozen
  have hz := hS2.blk.lt
  have hB := hS2.below
  have hB2 := hB
  have hne : w.heap.size ≠ w2.heap.size := by omega
  have f4 : w2.cell? ⟨w1.heap.size, 4, none⟩ = some (.int .i64 2048) := hF2.cell 4
  have hzf := hF2.lt
  have hne2 : w1.heap.size ≠ w2.heap.size := by omega
  go_wp2_with fail
  refine bodyPost_ret (v := .agg #[.int .i64 0, .string ⟨#[]⟩]) (by simp [results, Try.results11, go_sem, r0, r1, hz]) rfl ⟨rfl, ?_⟩
  (with_reducible (repeat' (first | exact hB | exact hB2 | exact Below.refl _ _ | refine below_drewN ?_ _ | refine Below.drew ?_ | refine Below.alloc ?_ (by first | (simp; done) | (simp; omega) | omega) _ | refine Below.setCell ?_ (by first | (simp; done) | (simp; omega) | omega) _)))
set_option maxRecDepth 100000 in
set_option maxHeartbeats 1600000 in
theorem rof_ver_34525 (s : ByteArray) (w : World) (d r : ByteArray) (vl pr : Int) (b : ByteArray) (src dst : ByteArray) (proto hops cls id flags off label : Int) (opt body : ByteArray)
    (A : ∀ W, Calls Try.prog 26 #[.string s] W fun e w' => e = .returned (.tuple #[.agg #[.string d, .string r, .int .i64 vl, .int .i64 pr, .int .i64 34525, .string b], .int .i64 0]) ∧ Below W.heap.size W w') (AI : ∀ W, Calls Try.prog 27 #[.string b] W fun e w' => e = .returned (.tuple #[.agg #[.int .i64 4, .string src, .string dst, .int .i64 proto, .int .i64 hops, .int .i64 cls, .int .i64 id, .int .i64 flags, .int .i64 off, .int .i64 label, .string opt, .string body], .int .i64 0]) ∧ Below W.heap.size W w') : Calls Try.prog 11 #[.string s] w (OfIs w 0 ⟨#[]⟩) := by
  have HA := Lib.hid A
  have HI := Lib.hid AI
  clear A AI
  go_enter Try.func11, Try.ntmps11
  go_wp2_with fail
  refine (HA.out _).mono ?_
  rintro e w1 ⟨rfl, hq⟩
  have hS := (Held.new w 24 #[.int .i64 0, .string ⟨#[]⟩]).next hq
  clear hq
  go_wp2_with fail
  refine (HI.out _).mono ?_
  rintro e w2 ⟨rfl, hq⟩
  have hz1 := hS.blk.lt
  have hS2 : Held w 24 #[.int .i64 0, .string ⟨#[]⟩] w2 := ⟨(hS.blk.alloc _).same (hq.block _ (by simp; omega)), (hS.below.alloc (by omega) _).trans (hq.mono (by simp; omega))⟩
  have hF2 : Blk w2 w1.heap.size 48 #[.string d, .string r, .int .i64 vl, .int .i64 pr, .int .i64 34525, .string b] := (Blk.new w1 48 _).same (hq.block _ (by simp))
  clear hq hS
  obtain ⟨r0, r1⟩ : w2.cell? ⟨w.heap.size, 0, none⟩ = some (.int .i64 0) ∧ w2.cell? ⟨w.heap.size, 1, none⟩ = some (.string ⟨#[]⟩) := ⟨hS2.blk.cell 0, hS2.blk.cell 1⟩
  have fr := hS2.blk.frozen
  have hz := hS2.blk.lt
  have hB := hS2.below
  have hB2 := hB
  have hne : w.heap.size ≠ w2.heap.size := by omega
  have f4 : w2.cell? ⟨w1.heap.size, 4, none⟩ = some (.int .i64 34525) := hF2.cell 4
  have hzf := hF2.lt
  have hne2 : w1.heap.size ≠ w2.heap.size := by omega
  go_wp2_with fail
  refine bodyPost_ret (v := .agg #[.int .i64 0, .string ⟨#[]⟩]) (by simp [results, Try.results11, go_sem, r0, r1, hz]) rfl ⟨rfl, ?_⟩
  (with_reducible (repeat' (first | exact hB | exact hB2 | exact Below.refl _ _ | refine below_drewN ?_ _ | refine Below.drew ?_ | refine Below.alloc ?_ (by first | (simp; done) | (simp; omega) | omega) _ | refine Below.setCell ?_ (by first | (simp; done) | (simp; omega) | omega) _)))
end Go.Proofs.Ytpelohmondhiiaa
namespace Go.Proofs.Ytpelohmondhiiaa
open Go.RowKit

set_option maxRecDepth 100000 in
set_option maxHeartbeats 1600000 in
theorem rof_bare_4c (s : ByteArray) (w : World) (d r : ByteArray) (vl pr : Int) (b : ByteArray) (src dst : ByteArray) (proto hops cls id flags off label : Int) (opt body : ByteArray) (y1 : src.size ≤ 16) (y2 : dst.size ≤ 16) (g1 : (proto == 6) = false) (g2 : (proto == 17) = false)
    (A : ∀ W, Calls Try.prog 26 #[.string s] W fun e w' => e = .returned (.tuple #[.agg #[.string d, .string r, .int .i64 vl, .int .i64 pr, .int .i64 2048, .string b], .int .i64 0]) ∧ Below W.heap.size W w') (AI : ∀ W, Calls Try.prog 27 #[.string b] W fun e w' => e = .returned (.tuple #[.agg #[.int .i64 4, .string src, .string dst, .int .i64 proto, .int .i64 hops, .int .i64 cls, .int .i64 id, .int .i64 flags, .int .i64 off, .int .i64 label, .string opt, .string body], .int .i64 0]) ∧ Below W.heap.size W w') : Calls Try.prog 11 #[.string s] w (OfIs w 1 (src ++ dst)) := by
  have HA := Lib.hid A
  have HI := Lib.hid AI
  clear A AI
  have y3 : ¬ 9223372036854775807 < src.size + dst.size := by omega
  go_enter Try.func11, Try.ntmps11
  go_wp2_with fail
  refine (HA.out _).mono ?_
  rintro e w1 ⟨rfl, hq⟩
  have hS := (Held.new w 24 #[.int .i64 0, .string ⟨#[]⟩]).next hq
  clear hq
  go_wp2_with fail
  refine (HI.out _).mono ?_
  rintro e w2 ⟨rfl, hq⟩
  have hz1 := hS.blk.lt
  have hS2 : Held w 24 #[.int .i64 0, .string ⟨#[]⟩] w2 := ⟨(hS.blk.alloc _).same (hq.block _ (by simp; omega)), (hS.below.alloc (by omega) _).trans (hq.mono (by simp; omega))⟩
  have hF2 : Blk w2 w1.heap.size 48 #[.string d, .string r, .int .i64 vl, .int .i64 pr, .int .i64 2048, .string b] := (Blk.new w1 48 _).same (hq.block _ (by simp))
  clear hq hS
  obtain ⟨r0, r1⟩ : w2.cell? ⟨w.heap.size, 0, none⟩ = some (.int .i64 0) ∧ w2.cell? ⟨w.heap.size, 1, none⟩ = some (.string ⟨#[]⟩) := ⟨hS2.blk.cell 0, hS2.blk.cell 1⟩
  have fr := hS2.blk.frozen
  have hz := hS2.blk.lt
  have hB := hS2.below
  have hB2 := hB
  have hne : w.heap.size ≠ w2.heap.size := by omega
  have f4 : w2.cell? ⟨w1.heap.size, 4, none⟩ = some (.int .i64 2048) := hF2.cell 4
  have hzf := hF2.lt
  have hne2 : w1.heap.size ≠ w2.heap.size := by omega
  go_wp2_with fail
  refine bodyPost_ret (v := .agg #[.int .i64 1, .string (src ++ dst)]) (by simp [results, Try.results11, go_sem, r0, r1, hz]) rfl ⟨rfl, ?_⟩
  (with_reducible (repeat' (first | exact hB | exact hB2 | exact Below.refl _ _ | refine below_drewN ?_ _ | refine Below.drew ?_ | refine Below.alloc ?_ (by first | (simp; done) | (simp; omega) | omega) _ | refine Below.setCell ?_ (by first | (simp; done) | (simp; omega) | omega) _)))
set_option maxRecDepth 100000 in
set_option maxHeartbeats 1600000 in
theorem rof_bare_4d (s : ByteArray) (w : World) (d r : ByteArray) (vl pr : Int) (b : ByteArray) (src dst : ByteArray) (proto hops cls id flags off label : Int) (opt body : ByteArray) (y1 : src.size ≤ 16) (y2 : dst.size ≤ 16) (g1 : (proto == 6) = true) (g3 : (off == 0) = false)
    (A : ∀ W, Calls Try.prog 26 #[.string s] W fun e w' => e = .returned (.tuple #[.agg #[.string d, .string r, .int .i64 vl, .int .i64 pr, .int .i64 2048, .string b], .int .i64 0]) ∧ Below W.heap.size W w') (AI : ∀ W, Calls Try.prog 27 #[.string b] W fun e w' => e = .returned (.tuple #[.agg #[.int .i64 4, .string src, .string dst, .int .i64 proto, .int .i64 hops, .int .i64 cls, .int .i64 id, .int .i64 flags, .int .i64 off, .int .i64 label, .string opt, .string body], .int .i64 0]) ∧ Below W.heap.size W w') : Calls Try.prog 11 #[.string s] w (OfIs w 1 (src ++ dst)) := by
  have HA := Lib.hid A
  have HI := Lib.hid AI
  clear A AI
  have y3 : ¬ 9223372036854775807 < src.size + dst.size := by omega
  go_enter Try.func11, Try.ntmps11
  go_wp2_with fail
  refine (HA.out _).mono ?_
  rintro e w1 ⟨rfl, hq⟩
  have hS := (Held.new w 24 #[.int .i64 0, .string ⟨#[]⟩]).next hq
  clear hq
  go_wp2_with fail
  refine (HI.out _).mono ?_
  rintro e w2 ⟨rfl, hq⟩
  have hz1 := hS.blk.lt
  have hS2 : Held w 24 #[.int .i64 0, .string ⟨#[]⟩] w2 := ⟨(hS.blk.alloc _).same (hq.block _ (by simp; omega)), (hS.below.alloc (by omega) _).trans (hq.mono (by simp; omega))⟩
  have hF2 : Blk w2 w1.heap.size 48 #[.string d, .string r, .int .i64 vl, .int .i64 pr, .int .i64 2048, .string b] := (Blk.new w1 48 _).same (hq.block _ (by simp))
  clear hq hS
  obtain ⟨r0, r1⟩ : w2.cell? ⟨w.heap.size, 0, none⟩ = some (.int .i64 0) ∧ w2.cell? ⟨w.heap.size, 1, none⟩ = some (.string ⟨#[]⟩) := ⟨hS2.blk.cell 0, hS2.blk.cell 1⟩
  have fr := hS2.blk.frozen
  have hz := hS2.blk.lt
  have hB := hS2.below
  have hB2 := hB
  have hne : w.heap.size ≠ w2.heap.size := by omega
  have f4 : w2.cell? ⟨w1.heap.size, 4, none⟩ = some (.int .i64 2048) := hF2.cell 4
  have hzf := hF2.lt
  have hne2 : w1.heap.size ≠ w2.heap.size := by omega
  go_wp2_with fail
  refine bodyPost_ret (v := .agg #[.int .i64 1, .string (src ++ dst)]) (by simp [results, Try.results11, go_sem, r0, r1, hz]) rfl ⟨rfl, ?_⟩
  (with_reducible (repeat' (first | exact hB | exact hB2 | exact Below.refl _ _ | refine below_drewN ?_ _ | refine Below.drew ?_ | refine Below.alloc ?_ (by first | (simp; done) | (simp; omega) | omega) _ | refine Below.setCell ?_ (by first | (simp; done) | (simp; omega) | omega) _)))
set_option maxRecDepth 100000 in
set_option maxHeartbeats 1600000 in
theorem rof_bare_4e (s : ByteArray) (w : World) (d r : ByteArray) (vl pr : Int) (b : ByteArray) (src dst : ByteArray) (proto hops cls id flags off label : Int) (opt body : ByteArray) (y1 : src.size ≤ 16) (y2 : dst.size ≤ 16) (g1 : (proto == 6) = false) (g2 : (proto == 17) = true) (g3 : (off == 0) = false)
    (A : ∀ W, Calls Try.prog 26 #[.string s] W fun e w' => e = .returned (.tuple #[.agg #[.string d, .string r, .int .i64 vl, .int .i64 pr, .int .i64 2048, .string b], .int .i64 0]) ∧ Below W.heap.size W w') (AI : ∀ W, Calls Try.prog 27 #[.string b] W fun e w' => e = .returned (.tuple #[.agg #[.int .i64 4, .string src, .string dst, .int .i64 proto, .int .i64 hops, .int .i64 cls, .int .i64 id, .int .i64 flags, .int .i64 off, .int .i64 label, .string opt, .string body], .int .i64 0]) ∧ Below W.heap.size W w') : Calls Try.prog 11 #[.string s] w (OfIs w 1 (src ++ dst)) := by
  have HA := Lib.hid A
  have HI := Lib.hid AI
  clear A AI
  have y3 : ¬ 9223372036854775807 < src.size + dst.size := by omega
  go_enter Try.func11, Try.ntmps11
  go_wp2_with fail
  refine (HA.out _).mono ?_
  rintro e w1 ⟨rfl, hq⟩
  have hS := (Held.new w 24 #[.int .i64 0, .string ⟨#[]⟩]).next hq
  clear hq
  go_wp2_with fail
  refine (HI.out _).mono ?_
  rintro e w2 ⟨rfl, hq⟩
  have hz1 := hS.blk.lt
  have hS2 : Held w 24 #[.int .i64 0, .string ⟨#[]⟩] w2 := ⟨(hS.blk.alloc _).same (hq.block _ (by simp; omega)), (hS.below.alloc (by omega) _).trans (hq.mono (by simp; omega))⟩
  have hF2 : Blk w2 w1.heap.size 48 #[.string d, .string r, .int .i64 vl, .int .i64 pr, .int .i64 2048, .string b] := (Blk.new w1 48 _).same (hq.block _ (by simp))
  clear hq hS
  obtain ⟨r0, r1⟩ : w2.cell? ⟨w.heap.size, 0, none⟩ = some (.int .i64 0) ∧ w2.cell? ⟨w.heap.size, 1, none⟩ = some (.string ⟨#[]⟩) := ⟨hS2.blk.cell 0, hS2.blk.cell 1⟩
  have fr := hS2.blk.frozen
  have hz := hS2.blk.lt
  have hB := hS2.below
  have hB2 := hB
  have hne : w.heap.size ≠ w2.heap.size := by omega
  have f4 : w2.cell? ⟨w1.heap.size, 4, none⟩ = some (.int .i64 2048) := hF2.cell 4
  have hzf := hF2.lt
  have hne2 : w1.heap.size ≠ w2.heap.size := by omega
  go_wp2_with fail
  refine bodyPost_ret (v := .agg #[.int .i64 1, .string (src ++ dst)]) (by simp [results, Try.results11, go_sem, r0, r1, hz]) rfl ⟨rfl, ?_⟩
  (with_reducible (repeat' (first | exact hB | exact hB2 | exact Below.refl _ _ | refine below_drewN ?_ _ | refine Below.drew ?_ | refine Below.alloc ?_ (by first | (simp; done) | (simp; omega) | omega) _ | refine Below.setCell ?_ (by first | (simp; done) | (simp; omega) | omega) _)))
set_option maxRecDepth 100000 in
set_option maxHeartbeats 1600000 in
theorem rof_bare_4f (s : ByteArray) (w : World) (d r : ByteArray) (vl pr : Int) (b : ByteArray) (src dst : ByteArray) (proto hops cls id flags off label : Int) (opt body : ByteArray) (X : Int) (x1 : flags.tmod 2 = X) (y1 : src.size ≤ 16) (y2 : dst.size ≤ 16) (g1 : (proto == 6) = true) (g3 : (off == 0) = true) (g4 : (X == 0) = false)
    (A : ∀ W, Calls Try.prog 26 #[.string s] W fun e w' => e = .returned (.tuple #[.agg #[.string d, .string r, .int .i64 vl, .int .i64 pr, .int .i64 2048, .string b], .int .i64 0]) ∧ Below W.heap.size W w') (AI : ∀ W, Calls Try.prog 27 #[.string b] W fun e w' => e = .returned (.tuple #[.agg #[.int .i64 4, .string src, .string dst, .int .i64 proto, .int .i64 hops, .int .i64 cls, .int .i64 id, .int .i64 flags, .int .i64 off, .int .i64 label, .string opt, .string body], .int .i64 0]) ∧ Below W.heap.size W w') : Calls Try.prog 11 #[.string s] w (OfIs w 1 (src ++ dst)) := by
  have HA := Lib.hid A
  have HI := Lib.hid AI
  clear A AI
  have y3 : ¬ 9223372036854775807 < src.size + dst.size := by omega
  go_enter Try.func11, Try.ntmps11
  go_wp2_with fail
  refine (HA.out _).mono ?_
  rintro e w1 ⟨rfl, hq⟩
  have hS := (Held.new w 24 #[.int .i64 0, .string ⟨#[]⟩]).next hq
  clear hq
  go_wp2_with fail
  refine (HI.out _).mono ?_
  rintro e w2 ⟨rfl, hq⟩
  have hz1 := hS.blk.lt
  have hS2 : Held w 24 #[.int .i64 0, .string ⟨#[]⟩] w2 := ⟨(hS.blk.alloc _).same (hq.block _ (by simp; omega)), (hS.below.alloc (by omega) _).trans (hq.mono (by simp; omega))⟩
  have hF2 : Blk w2 w1.heap.size 48 #[.string d, .string r, .int .i64 vl, .int .i64 pr, .int .i64 2048, .string b] := (Blk.new w1 48 _).same (hq.block _ (by simp))
  clear hq hS
  obtain ⟨r0, r1⟩ : w2.cell? ⟨w.heap.size, 0, none⟩ = some (.int .i64 0) ∧ w2.cell? ⟨w.heap.size, 1, none⟩ = some (.string ⟨#[]⟩) := ⟨hS2.blk.cell 0, hS2.blk.cell 1⟩
  have fr := hS2.blk.frozen
  have hz := hS2.blk.lt
  have hB := hS2.below
  have hB2 := hB
  have hne : w.heap.size ≠ w2.heap.size := by omega
  have f4 : w2.cell? ⟨w1.heap.size, 4, none⟩ = some (.int .i64 2048) := hF2.cell 4
  have hzf := hF2.lt
  have hne2 : w1.heap.size ≠ w2.heap.size := by omega
  go_wp2_with fail
  refine bodyPost_ret (v := .agg #[.int .i64 1, .string (src ++ dst)]) (by simp [results, Try.results11, go_sem, r0, r1, hz]) rfl ⟨rfl, ?_⟩
  (with_reducible (repeat' (first | exact hB | exact hB2 | exact Below.refl _ _ | refine below_drewN ?_ _ | refine Below.drew ?_ | refine Below.alloc ?_ (by first | (simp; done) | (simp; omega) | omega) _ | refine Below.setCell ?_ (by first | (simp; done) | (simp; omega) | omega) _)))
set_option maxRecDepth 100000 in
set_option maxHeartbeats 1600000 in
theorem rof_bare_4g (s : ByteArray) (w : World) (d r : ByteArray) (vl pr : Int) (b : ByteArray) (src dst : ByteArray) (proto hops cls id flags off label : Int) (opt body : ByteArray) (X : Int) (x1 : flags.tmod 2 = X) (y1 : src.size ≤ 16) (y2 : dst.size ≤ 16) (g1 : (proto == 6) = false) (g2 : (proto == 17) = true) (g3 : (off == 0) = true) (g4 : (X == 0) = false)
    (A : ∀ W, Calls Try.prog 26 #[.string s] W fun e w' => e = .returned (.tuple #[.agg #[.string d, .string r, .int .i64 vl, .int .i64 pr, .int .i64 2048, .string b], .int .i64 0]) ∧ Below W.heap.size W w') (AI : ∀ W, Calls Try.prog 27 #[.string b] W fun e w' => e = .returned (.tuple #[.agg #[.int .i64 4, .string src, .string dst, .int .i64 proto, .int .i64 hops, .int .i64 cls, .int .i64 id, .int .i64 flags, .int .i64 off, .int .i64 label, .string opt, .string body], .int .i64 0]) ∧ Below W.heap.size W w') : Calls Try.prog 11 #[.string s] w (OfIs w 1 (src ++ dst)) := by
  have HA := Lib.hid A
  have HI := Lib.hid AI
  clear A AI
  have y3 : ¬ 9223372036854775807 < src.size + dst.size := by omega
  go_enter Try.func11, Try.ntmps11
  go_wp2_with fail
  refine (HA.out _).mono ?_
  rintro e w1 ⟨rfl, hq⟩
  have hS := (Held.new w 24 #[.int .i64 0, .string ⟨#[]⟩]).next hq
  clear hq
  go_wp2_with fail
  refine (HI.out _).mono ?_
  rintro e w2 ⟨rfl, hq⟩
  have hz1 := hS.blk.lt
  have hS2 : Held w 24 #[.int .i64 0, .string ⟨#[]⟩] w2 := ⟨(hS.blk.alloc _).same (hq.block _ (by simp; omega)), (hS.below.alloc (by omega) _).trans (hq.mono (by simp; omega))⟩
  have hF2 : Blk w2 w1.heap.size 48 #[.string d, .string r, .int .i64 vl, .int .i64 pr, .int .i64 2048, .string b] := (Blk.new w1 48 _).same (hq.block _ (by simp))
  clear hq hS
  obtain ⟨r0, r1⟩ : w2.cell? ⟨w.heap.size, 0, none⟩ = some (.int .i64 0) ∧ w2.cell? ⟨w.heap.size, 1, none⟩ = some (.string ⟨#[]⟩) := ⟨hS2.blk.cell 0, hS2.blk.cell 1⟩
  have fr := hS2.blk.frozen
  have hz := hS2.blk.lt
  have hB := hS2.below
  have hB2 := hB
  have hne : w.heap.size ≠ w2.heap.size := by omega
  have f4 : w2.cell? ⟨w1.heap.size, 4, none⟩ = some (.int .i64 2048) := hF2.cell 4
  have hzf := hF2.lt
  have hne2 : w1.heap.size ≠ w2.heap.size := by omega
  go_wp2_with fail
  refine bodyPost_ret (v := .agg #[.int .i64 1, .string (src ++ dst)]) (by simp [results, Try.results11, go_sem, r0, r1, hz]) rfl ⟨rfl, ?_⟩
  (with_reducible (repeat' (first | exact hB | exact hB2 | exact Below.refl _ _ | refine below_drewN ?_ _ | refine Below.drew ?_ | refine Below.alloc ?_ (by first | (simp; done) | (simp; omega) | omega) _ | refine Below.setCell ?_ (by first | (simp; done) | (simp; omega) | omega) _)))
set_option maxRecDepth 100000 in
set_option maxHeartbeats 1600000 in
theorem rof_bare_4h (s : ByteArray) (w : World) (d r : ByteArray) (vl pr : Int) (b : ByteArray) (src dst : ByteArray) (proto hops cls id flags off label : Int) (opt body : ByteArray) (X : Int) (x1 : flags.tmod 2 = X) (y1 : src.size ≤ 16) (y2 : dst.size ≤ 16) (g1 : (proto == 6) = true) (g3 : (off == 0) = true) (g4 : (X == 0) = true) (g5 : (body.size : Int) < 4)
    (A : ∀ W, Calls Try.prog 26 #[.string s] W fun e w' => e = .returned (.tuple #[.agg #[.string d, .string r, .int .i64 vl, .int .i64 pr, .int .i64 2048, .string b], .int .i64 0]) ∧ Below W.heap.size W w') (AI : ∀ W, Calls Try.prog 27 #[.string b] W fun e w' => e = .returned (.tuple #[.agg #[.int .i64 4, .string src, .string dst, .int .i64 proto, .int .i64 hops, .int .i64 cls, .int .i64 id, .int .i64 flags, .int .i64 off, .int .i64 label, .string opt, .string body], .int .i64 0]) ∧ Below W.heap.size W w') : Calls Try.prog 11 #[.string s] w (OfIs w 1 (src ++ dst)) := by
  have HA := Lib.hid A
  have HI := Lib.hid AI
  clear A AI
  have y3 : ¬ 9223372036854775807 < src.size + dst.size := by omega
  go_enter Try.func11, Try.ntmps11
  go_wp2_with fail
  refine (HA.out _).mono ?_
  rintro e w1 ⟨rfl, hq⟩
  have hS := (Held.new w 24 #[.int .i64 0, .string ⟨#[]⟩]).next hq
  clear hq
  go_wp2_with fail
  refine (HI.out _).mono ?_
  rintro e w2 ⟨rfl, hq⟩
  have hz1 := hS.blk.lt
  have hS2 : Held w 24 #[.int .i64 0, .string ⟨#[]⟩] w2 := ⟨(hS.blk.alloc _).same (hq.block _ (by simp; omega)), (hS.below.alloc (by omega) _).trans (hq.mono (by simp; omega))⟩
  have hF2 : Blk w2 w1.heap.size 48 #[.string d, .string r, .int .i64 vl, .int .i64 pr, .int .i64 2048, .string b] := (Blk.new w1 48 _).same (hq.block _ (by simp))
  clear hq hS
  obtain ⟨r0, r1⟩ : w2.cell? ⟨w.heap.size, 0, none⟩ = some (.int .i64 0) ∧ w2.cell? ⟨w.heap.size, 1, none⟩ = some (.string ⟨#[]⟩) := ⟨hS2.blk.cell 0, hS2.blk.cell 1⟩
  have fr := hS2.blk.frozen
  have hz := hS2.blk.lt
  have hB := hS2.below
  have hB2 := hB
  have hne : w.heap.size ≠ w2.heap.size := by omega
  have f4 : w2.cell? ⟨w1.heap.size, 4, none⟩ = some (.int .i64 2048) := hF2.cell 4
  have hzf := hF2.lt
  have hne2 : w1.heap.size ≠ w2.heap.size := by omega
  go_wp2_with fail
  refine bodyPost_ret (v := .agg #[.int .i64 1, .string (src ++ dst)]) (by simp [results, Try.results11, go_sem, r0, r1, hz]) rfl ⟨rfl, ?_⟩
  (with_reducible (repeat' (first | exact hB | exact hB2 | exact Below.refl _ _ | refine below_drewN ?_ _ | refine Below.drew ?_ | refine Below.alloc ?_ (by first | (simp; done) | (simp; omega) | omega) _ | refine Below.setCell ?_ (by first | (simp; done) | (simp; omega) | omega) _)))
set_option maxRecDepth 100000 in
set_option maxHeartbeats 1600000 in
theorem rof_bare_4i (s : ByteArray) (w : World) (d r : ByteArray) (vl pr : Int) (b : ByteArray) (src dst : ByteArray) (proto hops cls id flags off label : Int) (opt body : ByteArray) (X : Int) (x1 : flags.tmod 2 = X) (y1 : src.size ≤ 16) (y2 : dst.size ≤ 16) (g1 : (proto == 6) = false) (g2 : (proto == 17) = true) (g3 : (off == 0) = true) (g4 : (X == 0) = true) (g5 : (body.size : Int) < 4)
    (A : ∀ W, Calls Try.prog 26 #[.string s] W fun e w' => e = .returned (.tuple #[.agg #[.string d, .string r, .int .i64 vl, .int .i64 pr, .int .i64 2048, .string b], .int .i64 0]) ∧ Below W.heap.size W w') (AI : ∀ W, Calls Try.prog 27 #[.string b] W fun e w' => e = .returned (.tuple #[.agg #[.int .i64 4, .string src, .string dst, .int .i64 proto, .int .i64 hops, .int .i64 cls, .int .i64 id, .int .i64 flags, .int .i64 off, .int .i64 label, .string opt, .string body], .int .i64 0]) ∧ Below W.heap.size W w') : Calls Try.prog 11 #[.string s] w (OfIs w 1 (src ++ dst)) := by
  have HA := Lib.hid A
  have HI := Lib.hid AI
  clear A AI
  have y3 : ¬ 9223372036854775807 < src.size + dst.size := by omega
  go_enter Try.func11, Try.ntmps11
  go_wp2_with fail
  refine (HA.out _).mono ?_
  rintro e w1 ⟨rfl, hq⟩
  have hS := (Held.new w 24 #[.int .i64 0, .string ⟨#[]⟩]).next hq
  clear hq
  go_wp2_with fail
  refine (HI.out _).mono ?_
  rintro e w2 ⟨rfl, hq⟩
  have hz1 := hS.blk.lt
  have hS2 : Held w 24 #[.int .i64 0, .string ⟨#[]⟩] w2 := ⟨(hS.blk.alloc _).same (hq.block _ (by simp; omega)), (hS.below.alloc (by omega) _).trans (hq.mono (by simp; omega))⟩
  have hF2 : Blk w2 w1.heap.size 48 #[.string d, .string r, .int .i64 vl, .int .i64 pr, .int .i64 2048, .string b] := (Blk.new w1 48 _).same (hq.block _ (by simp))
  clear hq hS
  obtain ⟨r0, r1⟩ : w2.cell? ⟨w.heap.size, 0, none⟩ = some (.int .i64 0) ∧ w2.cell? ⟨w.heap.size, 1, none⟩ = some (.string ⟨#[]⟩) := ⟨hS2.blk.cell 0, hS2.blk.cell 1⟩
  have fr := hS2.blk.frozen
  have hz := hS2.blk.lt
  have hB := hS2.below
  have hB2 := hB
  have hne : w.heap.size ≠ w2.heap.size := by omega
  have f4 : w2.cell? ⟨w1.heap.size, 4, none⟩ = some (.int .i64 2048) := hF2.cell 4
  have hzf := hF2.lt
  have hne2 : w1.heap.size ≠ w2.heap.size := by omega
  go_wp2_with fail
  refine bodyPost_ret (v := .agg #[.int .i64 1, .string (src ++ dst)]) (by simp [results, Try.results11, go_sem, r0, r1, hz]) rfl ⟨rfl, ?_⟩
  (with_reducible (repeat' (first | exact hB | exact hB2 | exact Below.refl _ _ | refine below_drewN ?_ _ | refine Below.drew ?_ | refine Below.alloc ?_ (by first | (simp; done) | (simp; omega) | omega) _ | refine Below.setCell ?_ (by first | (simp; done) | (simp; omega) | omega) _)))
set_option maxRecDepth 100000 in
set_option maxHeartbeats 1600000 in
theorem rof_port_4a (s : ByteArray) (w : World) (d r : ByteArray) (vl pr : Int) (b : ByteArray) (src dst : ByteArray) (proto hops cls id flags off label : Int) (opt body : ByteArray) (X : Int) (x1 : flags.tmod 2 = X) (y1 : src.size ≤ 16) (y2 : dst.size ≤ 16) (g1 : (proto == 6) = true) (g2 : (proto == 17) = false) (g3 : (off == 0) = true) (g4 : (X == 0) = true) (g5 : 4 ≤ body.size)
    (A : ∀ W, Calls Try.prog 26 #[.string s] W fun e w' => e = .returned (.tuple #[.agg #[.string d, .string r, .int .i64 vl, .int .i64 pr, .int .i64 2048, .string b], .int .i64 0]) ∧ Below W.heap.size W w') (AI : ∀ W, Calls Try.prog 27 #[.string b] W fun e w' => e = .returned (.tuple #[.agg #[.int .i64 4, .string src, .string dst, .int .i64 proto, .int .i64 hops, .int .i64 cls, .int .i64 id, .int .i64 flags, .int .i64 off, .int .i64 label, .string opt, .string body], .int .i64 0]) ∧ Below W.heap.size W w') : Calls Try.prog 11 #[.string s] w (OfIs w 2 (src ++ dst ++ body.extract 0 4)) := by
  have HA := Lib.hid A
  have HI := Lib.hid AI
  clear A AI
  have y3 : ¬ 9223372036854775807 < src.size + dst.size := by omega
  have y4 : (body.extract 0 4).size = 4 := by rw [ByteArray.size_extract]; omega
  have y5 : ¬ 9223372036854775807 < (src ++ dst).size + (body.extract 0 4).size := by rw [y4, ByteArray.size_append]; omega
  have y6 : (4 : Int) ≤ body.size := by omega
  have y7 : ¬ (body.size : Int) < 4 := by omega
  clear y1 y2
  go_enter Try.func11, Try.ntmps11
  go_wp2_with fail
  refine (HA.out _).mono ?_
  rintro e w1 ⟨rfl, hq⟩
  have hS := (Held.new w 24 #[.int .i64 0, .string ⟨#[]⟩]).next hq
  clear hq
  go_wp2_with fail
  refine (HI.out _).mono ?_
  rintro e w2 ⟨rfl, hq⟩
  have hz1 := hS.blk.lt
  have hS2 : Held w 24 #[.int .i64 0, .string ⟨#[]⟩] w2 := ⟨(hS.blk.alloc _).same (hq.block _ (by simp; omega)), (hS.below.alloc (by omega) _).trans (hq.mono (by simp; omega))⟩
  have hF2 : Blk w2 w1.heap.size 48 #[.string d, .string r, .int .i64 vl, .int .i64 pr, .int .i64 2048, .string b] := (Blk.new w1 48 _).same (hq.block _ (by simp))
  clear hq hS
  obtain ⟨r0, r1⟩ : w2.cell? ⟨w.heap.size, 0, none⟩ = some (.int .i64 0) ∧ w2.cell? ⟨w.heap.size, 1, none⟩ = some (.string ⟨#[]⟩) := ⟨hS2.blk.cell 0, hS2.blk.cell 1⟩
  have fr := hS2.blk.frozen
  have hz := hS2.blk.lt
  have hB := hS2.below
  have hB2 := hB
  have hne : w.heap.size ≠ w2.heap.size := by omega
  have f4 : w2.cell? ⟨w1.heap.size, 4, none⟩ = some (.int .i64 2048) := hF2.cell 4
  have hzf := hF2.lt
  have hne2 : w1.heap.size ≠ w2.heap.size := by omega
  go_wp2_with fail
  have hP : Blk (w2.alloc (.cells #[.int .i64 4, .string src, .string dst, .int .i64 proto, .int .i64 hops, .int .i64 cls, .int .i64 id, .int .i64 flags, .int .i64 off, .int .i64 label, .string opt, .string body] 35)) w2.heap.size 35 #[.int .i64 4, .string src, .string dst, .int .i64 proto, .int .i64 hops, .int .i64 cls, .int .i64 id, .int .i64 flags, .int .i64 off, .int .i64 label, .string opt, .string body] := Blk.new w2 35 _
  have hS3 : Held w 24 #[.int .i64 0, .string ⟨#[]⟩] (w2.alloc (.cells #[.int .i64 4, .string src, .string dst, .int .i64 proto, .int .i64 hops, .int .i64 cls, .int .i64 id, .int .i64 flags, .int .i64 off, .int .i64 label, .string opt, .string body] 35)) := ⟨hS2.blk.alloc _, hS2.below.alloc (by omega) _⟩
  clear r0 r1 fr hB hB2 f4 hS2 hF2
  generalize w2.alloc (.cells #[.int .i64 4, .string src, .string dst, .int .i64 proto, .int .i64 hops, .int .i64 cls, .int .i64 id, .int .i64 flags, .int .i64 off, .int .i64 label, .string opt, .string body] 35) = W0 at *
  obtain ⟨r0, r1⟩ : W0.cell? ⟨w.heap.size, 0, none⟩ = some (.int .i64 0) ∧ W0.cell? ⟨w.heap.size, 1, none⟩ = some (.string ⟨#[]⟩) := ⟨hS3.blk.cell 0, hS3.blk.cell 1⟩
  have fr := hS3.blk.frozen
  have hB := hS3.below
  have hB2 := hB
  have q1 : W0.cell? ⟨w2.heap.size, 1, none⟩ = some (.string src) := hP.cell 1
  have q2 : W0.cell? ⟨w2.heap.size, 2, none⟩ = some (.string dst) := hP.cell 2
  have q3 : W0.cell? ⟨w2.heap.size, 11, none⟩ = some (.string body) := hP.cell 11
  clear hP hS3
  go_region
  go_wp2_with fail
  refine bodyPost_ret (v := .agg #[.int .i64 2, .string (src ++ dst ++ body.extract 0 4)]) (by simp [results, Try.results11, go_sem, r0, r1]) rfl ⟨rfl, ?_⟩
  (with_reducible (repeat' (first | exact hB | exact hB2 | exact Below.refl _ _ | refine below_drewN ?_ _ | refine Below.drew ?_ | refine Below.alloc ?_ (by first | (simp; done) | (simp; omega) | omega) _ | refine Below.setCell ?_ (by first | (simp; done) | (simp; omega) | omega) _)))
set_option maxRecDepth 100000 in
set_option maxHeartbeats 1600000 in
theorem rof_port_4b (s : ByteArray) (w : World) (d r : ByteArray) (vl pr : Int) (b : ByteArray) (src dst : ByteArray) (proto hops cls id flags off label : Int) (opt body : ByteArray) (X : Int) (x1 : flags.tmod 2 = X) (y1 : src.size ≤ 16) (y2 : dst.size ≤ 16) (g1 : (proto == 6) = false) (g2 : (proto == 17) = true) (g3 : (off == 0) = true) (g4 : (X == 0) = true) (g5 : 4 ≤ body.size)
    (A : ∀ W, Calls Try.prog 26 #[.string s] W fun e w' => e = .returned (.tuple #[.agg #[.string d, .string r, .int .i64 vl, .int .i64 pr, .int .i64 2048, .string b], .int .i64 0]) ∧ Below W.heap.size W w') (AI : ∀ W, Calls Try.prog 27 #[.string b] W fun e w' => e = .returned (.tuple #[.agg #[.int .i64 4, .string src, .string dst, .int .i64 proto, .int .i64 hops, .int .i64 cls, .int .i64 id, .int .i64 flags, .int .i64 off, .int .i64 label, .string opt, .string body], .int .i64 0]) ∧ Below W.heap.size W w') : Calls Try.prog 11 #[.string s] w (OfIs w 3 (src ++ dst ++ body.extract 0 4)) := by
  have HA := Lib.hid A
  have HI := Lib.hid AI
  clear A AI
  have y3 : ¬ 9223372036854775807 < src.size + dst.size := by omega
  have y4 : (body.extract 0 4).size = 4 := by rw [ByteArray.size_extract]; omega
  have y5 : ¬ 9223372036854775807 < (src ++ dst).size + (body.extract 0 4).size := by rw [y4, ByteArray.size_append]; omega
  have y6 : (4 : Int) ≤ body.size := by omega
  have y7 : ¬ (body.size : Int) < 4 := by omega
  clear y1 y2
  go_enter Try.func11, Try.ntmps11
  go_wp2_with fail
  refine (HA.out _).mono ?_
  rintro e w1 ⟨rfl, hq⟩
  have hS := (Held.new w 24 #[.int .i64 0, .string ⟨#[]⟩]).next hq
  clear hq
  go_wp2_with fail
  refine (HI.out _).mono ?_
  rintro e w2 ⟨rfl, hq⟩
  have hz1 := hS.blk.lt
  have hS2 : Held w 24 #[.int .i64 0, .string ⟨#[]⟩] w2 := ⟨(hS.blk.alloc _).same (hq.block _ (by simp; omega)), (hS.below.alloc (by omega) _).trans (hq.mono (by simp; omega))⟩
  have hF2 : Blk w2 w1.heap.size 48 #[.string d, .string r, .int .i64 vl, .int .i64 pr, .int .i64 2048, .string b] := (Blk.new w1 48 _).same (hq.block _ (by simp))
  clear hq hS
  obtain ⟨r0, r1⟩ : w2.cell? ⟨w.heap.size, 0, none⟩ = some (.int .i64 0) ∧ w2.cell? ⟨w.heap.size, 1, none⟩ = some (.string ⟨#[]⟩) := ⟨hS2.blk.cell 0, hS2.blk.cell 1⟩
  have fr := hS2.blk.frozen
  have hz := hS2.blk.lt
  have hB := hS2.below
  have hB2 := hB
  have hne : w.heap.size ≠ w2.heap.size := by omega
  have f4 : w2.cell? ⟨w1.heap.size, 4, none⟩ = some (.int .i64 2048) := hF2.cell 4
  have hzf := hF2.lt
  have hne2 : w1.heap.size ≠ w2.heap.size := by omega
  go_wp2_with fail
  have hP : Blk (w2.alloc (.cells #[.int .i64 4, .string src, .string dst, .int .i64 proto, .int .i64 hops, .int .i64 cls, .int .i64 id, .int .i64 flags, .int .i64 off, .int .i64 label, .string opt, .string body] 35)) w2.heap.size 35 #[.int .i64 4, .string src, .string dst, .int .i64 proto, .int .i64 hops, .int .i64 cls, .int .i64 id, .int .i64 flags, .int .i64 off, .int .i64 label, .string opt, .string body] := Blk.new w2 35 _
  have hS3 : Held w 24 #[.int .i64 0, .string ⟨#[]⟩] (w2.alloc (.cells #[.int .i64 4, .string src, .string dst, .int .i64 proto, .int .i64 hops, .int .i64 cls, .int .i64 id, .int .i64 flags, .int .i64 off, .int .i64 label, .string opt, .string body] 35)) := ⟨hS2.blk.alloc _, hS2.below.alloc (by omega) _⟩
  clear r0 r1 fr hB hB2 f4 hS2 hF2
  generalize w2.alloc (.cells #[.int .i64 4, .string src, .string dst, .int .i64 proto, .int .i64 hops, .int .i64 cls, .int .i64 id, .int .i64 flags, .int .i64 off, .int .i64 label, .string opt, .string body] 35) = W0 at *
  obtain ⟨r0, r1⟩ : W0.cell? ⟨w.heap.size, 0, none⟩ = some (.int .i64 0) ∧ W0.cell? ⟨w.heap.size, 1, none⟩ = some (.string ⟨#[]⟩) := ⟨hS3.blk.cell 0, hS3.blk.cell 1⟩
  have fr := hS3.blk.frozen
  have hB := hS3.below
  have hB2 := hB
  have q1 : W0.cell? ⟨w2.heap.size, 1, none⟩ = some (.string src) := hP.cell 1
  have q2 : W0.cell? ⟨w2.heap.size, 2, none⟩ = some (.string dst) := hP.cell 2
  have q3 : W0.cell? ⟨w2.heap.size, 11, none⟩ = some (.string body) := hP.cell 11
  clear hP hS3
  go_region
  go_wp2_with fail
  refine bodyPost_ret (v := .agg #[.int .i64 3, .string (src ++ dst ++ body.extract 0 4)]) (by simp [results, Try.results11, go_sem, r0, r1]) rfl ⟨rfl, ?_⟩
  (with_reducible (repeat' (first | exact hB | exact hB2 | exact Below.refl _ _ | refine below_drewN ?_ _ | refine Below.drew ?_ | refine Below.alloc ?_ (by first | (simp; done) | (simp; omega) | omega) _ | refine Below.setCell ?_ (by first | (simp; done) | (simp; omega) | omega) _)))
end Go.Proofs.Ytpelohmondhiiaa
namespace Go.Proofs.Ytpelohmondhiiaa
open Go.RowKit

set_option maxRecDepth 100000 in
set_option maxHeartbeats 1600000 in
theorem rof_bare_6c (s : ByteArray) (w : World) (d r : ByteArray) (vl pr : Int) (b : ByteArray) (src dst : ByteArray) (proto hops cls id flags off label : Int) (opt body : ByteArray) (y1 : src.size ≤ 16) (y2 : dst.size ≤ 16) (g1 : (proto == 6) = false) (g2 : (proto == 17) = false)
    (A : ∀ W, Calls Try.prog 26 #[.string s] W fun e w' => e = .returned (.tuple #[.agg #[.string d, .string r, .int .i64 vl, .int .i64 pr, .int .i64 34525, .string b], .int .i64 0]) ∧ Below W.heap.size W w') (AI : ∀ W, Calls Try.prog 27 #[.string b] W fun e w' => e = .returned (.tuple #[.agg #[.int .i64 6, .string src, .string dst, .int .i64 proto, .int .i64 hops, .int .i64 cls, .int .i64 id, .int .i64 flags, .int .i64 off, .int .i64 label, .string opt, .string body], .int .i64 0]) ∧ Below W.heap.size W w') : Calls Try.prog 11 #[.string s] w (OfIs w 4 (src ++ dst)) := by
  have HA := Lib.hid A
  have HI := Lib.hid AI
  clear A AI
  have y3 : ¬ 9223372036854775807 < src.size + dst.size := by omega
  go_enter Try.func11, Try.ntmps11
  go_wp2_with fail
  refine (HA.out _).mono ?_
  rintro e w1 ⟨rfl, hq⟩
  have hS := (Held.new w 24 #[.int .i64 0, .string ⟨#[]⟩]).next hq
  clear hq
  go_wp2_with fail
  refine (HI.out _).mono ?_
  rintro e w2 ⟨rfl, hq⟩
  have hz1 := hS.blk.lt
  have hS2 : Held w 24 #[.int .i64 0, .string ⟨#[]⟩] w2 := ⟨(hS.blk.alloc _).same (hq.block _ (by simp; omega)), (hS.below.alloc (by omega) _).trans (hq.mono (by simp; omega))⟩
  have hF2 : Blk w2 w1.heap.size 48 #[.string d, .string r, .int .i64 vl, .int .i64 pr, .int .i64 34525, .string b] := (Blk.new w1 48 _).same (hq.block _ (by simp))
  clear hq hS
  obtain ⟨r0, r1⟩ : w2.cell? ⟨w.heap.size, 0, none⟩ = some (.int .i64 0) ∧ w2.cell? ⟨w.heap.size, 1, none⟩ = some (.string ⟨#[]⟩) := ⟨hS2.blk.cell 0, hS2.blk.cell 1⟩
  have fr := hS2.blk.frozen
  have hz := hS2.blk.lt
  have hB := hS2.below
  have hB2 := hB
  have hne : w.heap.size ≠ w2.heap.size := by omega
  have f4 : w2.cell? ⟨w1.heap.size, 4, none⟩ = some (.int .i64 34525) := hF2.cell 4
  have hzf := hF2.lt
  have hne2 : w1.heap.size ≠ w2.heap.size := by omega
  go_wp2_with fail
  refine bodyPost_ret (v := .agg #[.int .i64 4, .string (src ++ dst)]) (by simp [results, Try.results11, go_sem, r0, r1, hz]) rfl ⟨rfl, ?_⟩
  (with_reducible (repeat' (first | exact hB | exact hB2 | exact Below.refl _ _ | refine below_drewN ?_ _ | refine Below.drew ?_ | refine Below.alloc ?_ (by first | (simp; done) | (simp; omega) | omega) _ | refine Below.setCell ?_ (by first | (simp; done) | (simp; omega) | omega) _)))
set_option maxRecDepth 100000 in
set_option maxHeartbeats 1600000 in
theorem rof_bare_6d (s : ByteArray) (w : World) (d r : ByteArray) (vl pr : Int) (b : ByteArray) (src dst : ByteArray) (proto hops cls id flags off label : Int) (opt body : ByteArray) (y1 : src.size ≤ 16) (y2 : dst.size ≤ 16) (g1 : (proto == 6) = true) (g3 : (off == 0) = false)
    (A : ∀ W, Calls Try.prog 26 #[.string s] W fun e w' => e = .returned (.tuple #[.agg #[.string d, .string r, .int .i64 vl, .int .i64 pr, .int .i64 34525, .string b], .int .i64 0]) ∧ Below W.heap.size W w') (AI : ∀ W, Calls Try.prog 27 #[.string b] W fun e w' => e = .returned (.tuple #[.agg #[.int .i64 6, .string src, .string dst, .int .i64 proto, .int .i64 hops, .int .i64 cls, .int .i64 id, .int .i64 flags, .int .i64 off, .int .i64 label, .string opt, .string body], .int .i64 0]) ∧ Below W.heap.size W w') : Calls Try.prog 11 #[.string s] w (OfIs w 4 (src ++ dst)) := by
  have HA := Lib.hid A
  have HI := Lib.hid AI
  clear A AI
  have y3 : ¬ 9223372036854775807 < src.size + dst.size := by omega
  go_enter Try.func11, Try.ntmps11
  go_wp2_with fail
  refine (HA.out _).mono ?_
  rintro e w1 ⟨rfl, hq⟩
  have hS := (Held.new w 24 #[.int .i64 0, .string ⟨#[]⟩]).next hq
  clear hq
  go_wp2_with fail
  refine (HI.out _).mono ?_
  rintro e w2 ⟨rfl, hq⟩
  have hz1 := hS.blk.lt
  have hS2 : Held w 24 #[.int .i64 0, .string ⟨#[]⟩] w2 := ⟨(hS.blk.alloc _).same (hq.block _ (by simp; omega)), (hS.below.alloc (by omega) _).trans (hq.mono (by simp; omega))⟩
  have hF2 : Blk w2 w1.heap.size 48 #[.string d, .string r, .int .i64 vl, .int .i64 pr, .int .i64 34525, .string b] := (Blk.new w1 48 _).same (hq.block _ (by simp))
  clear hq hS
  obtain ⟨r0, r1⟩ : w2.cell? ⟨w.heap.size, 0, none⟩ = some (.int .i64 0) ∧ w2.cell? ⟨w.heap.size, 1, none⟩ = some (.string ⟨#[]⟩) := ⟨hS2.blk.cell 0, hS2.blk.cell 1⟩
  have fr := hS2.blk.frozen
  have hz := hS2.blk.lt
  have hB := hS2.below
  have hB2 := hB
  have hne : w.heap.size ≠ w2.heap.size := by omega
  have f4 : w2.cell? ⟨w1.heap.size, 4, none⟩ = some (.int .i64 34525) := hF2.cell 4
  have hzf := hF2.lt
  have hne2 : w1.heap.size ≠ w2.heap.size := by omega
  go_wp2_with fail
  refine bodyPost_ret (v := .agg #[.int .i64 4, .string (src ++ dst)]) (by simp [results, Try.results11, go_sem, r0, r1, hz]) rfl ⟨rfl, ?_⟩
  (with_reducible (repeat' (first | exact hB | exact hB2 | exact Below.refl _ _ | refine below_drewN ?_ _ | refine Below.drew ?_ | refine Below.alloc ?_ (by first | (simp; done) | (simp; omega) | omega) _ | refine Below.setCell ?_ (by first | (simp; done) | (simp; omega) | omega) _)))
set_option maxRecDepth 100000 in
set_option maxHeartbeats 1600000 in
theorem rof_bare_6e (s : ByteArray) (w : World) (d r : ByteArray) (vl pr : Int) (b : ByteArray) (src dst : ByteArray) (proto hops cls id flags off label : Int) (opt body : ByteArray) (y1 : src.size ≤ 16) (y2 : dst.size ≤ 16) (g1 : (proto == 6) = false) (g2 : (proto == 17) = true) (g3 : (off == 0) = false)
    (A : ∀ W, Calls Try.prog 26 #[.string s] W fun e w' => e = .returned (.tuple #[.agg #[.string d, .string r, .int .i64 vl, .int .i64 pr, .int .i64 34525, .string b], .int .i64 0]) ∧ Below W.heap.size W w') (AI : ∀ W, Calls Try.prog 27 #[.string b] W fun e w' => e = .returned (.tuple #[.agg #[.int .i64 6, .string src, .string dst, .int .i64 proto, .int .i64 hops, .int .i64 cls, .int .i64 id, .int .i64 flags, .int .i64 off, .int .i64 label, .string opt, .string body], .int .i64 0]) ∧ Below W.heap.size W w') : Calls Try.prog 11 #[.string s] w (OfIs w 4 (src ++ dst)) := by
  have HA := Lib.hid A
  have HI := Lib.hid AI
  clear A AI
  have y3 : ¬ 9223372036854775807 < src.size + dst.size := by omega
  go_enter Try.func11, Try.ntmps11
  go_wp2_with fail
  refine (HA.out _).mono ?_
  rintro e w1 ⟨rfl, hq⟩
  have hS := (Held.new w 24 #[.int .i64 0, .string ⟨#[]⟩]).next hq
  clear hq
  go_wp2_with fail
  refine (HI.out _).mono ?_
  rintro e w2 ⟨rfl, hq⟩
  have hz1 := hS.blk.lt
  have hS2 : Held w 24 #[.int .i64 0, .string ⟨#[]⟩] w2 := ⟨(hS.blk.alloc _).same (hq.block _ (by simp; omega)), (hS.below.alloc (by omega) _).trans (hq.mono (by simp; omega))⟩
  have hF2 : Blk w2 w1.heap.size 48 #[.string d, .string r, .int .i64 vl, .int .i64 pr, .int .i64 34525, .string b] := (Blk.new w1 48 _).same (hq.block _ (by simp))
  clear hq hS
  obtain ⟨r0, r1⟩ : w2.cell? ⟨w.heap.size, 0, none⟩ = some (.int .i64 0) ∧ w2.cell? ⟨w.heap.size, 1, none⟩ = some (.string ⟨#[]⟩) := ⟨hS2.blk.cell 0, hS2.blk.cell 1⟩
  have fr := hS2.blk.frozen
  have hz := hS2.blk.lt
  have hB := hS2.below
  have hB2 := hB
  have hne : w.heap.size ≠ w2.heap.size := by omega
  have f4 : w2.cell? ⟨w1.heap.size, 4, none⟩ = some (.int .i64 34525) := hF2.cell 4
  have hzf := hF2.lt
  have hne2 : w1.heap.size ≠ w2.heap.size := by omega
  go_wp2_with fail
  refine bodyPost_ret (v := .agg #[.int .i64 4, .string (src ++ dst)]) (by simp [results, Try.results11, go_sem, r0, r1, hz]) rfl ⟨rfl, ?_⟩
  (with_reducible (repeat' (first | exact hB | exact hB2 | exact Below.refl _ _ | refine below_drewN ?_ _ | refine Below.drew ?_ | refine Below.alloc ?_ (by first | (simp; done) | (simp; omega) | omega) _ | refine Below.setCell ?_ (by first | (simp; done) | (simp; omega) | omega) _)))
set_option maxRecDepth 100000 in
set_option maxHeartbeats 1600000 in
theorem rof_bare_6f (s : ByteArray) (w : World) (d r : ByteArray) (vl pr : Int) (b : ByteArray) (src dst : ByteArray) (proto hops cls id flags off label : Int) (opt body : ByteArray) (X : Int) (x1 : flags.tmod 2 = X) (y1 : src.size ≤ 16) (y2 : dst.size ≤ 16) (g1 : (proto == 6) = true) (g3 : (off == 0) = true) (g4 : (X == 0) = false)
    (A : ∀ W, Calls Try.prog 26 #[.string s] W fun e w' => e = .returned (.tuple #[.agg #[.string d, .string r, .int .i64 vl, .int .i64 pr, .int .i64 34525, .string b], .int .i64 0]) ∧ Below W.heap.size W w') (AI : ∀ W, Calls Try.prog 27 #[.string b] W fun e w' => e = .returned (.tuple #[.agg #[.int .i64 6, .string src, .string dst, .int .i64 proto, .int .i64 hops, .int .i64 cls, .int .i64 id, .int .i64 flags, .int .i64 off, .int .i64 label, .string opt, .string body], .int .i64 0]) ∧ Below W.heap.size W w') : Calls Try.prog 11 #[.string s] w (OfIs w 4 (src ++ dst)) := by
  have HA := Lib.hid A
  have HI := Lib.hid AI
  clear A AI
  have y3 : ¬ 9223372036854775807 < src.size + dst.size := by omega
  go_enter Try.func11, Try.ntmps11
  go_wp2_with fail
  refine (HA.out _).mono ?_
  rintro e w1 ⟨rfl, hq⟩
  have hS := (Held.new w 24 #[.int .i64 0, .string ⟨#[]⟩]).next hq
  clear hq
  go_wp2_with fail
  refine (HI.out _).mono ?_
  rintro e w2 ⟨rfl, hq⟩
  have hz1 := hS.blk.lt
  have hS2 : Held w 24 #[.int .i64 0, .string ⟨#[]⟩] w2 := ⟨(hS.blk.alloc _).same (hq.block _ (by simp; omega)), (hS.below.alloc (by omega) _).trans (hq.mono (by simp; omega))⟩
  have hF2 : Blk w2 w1.heap.size 48 #[.string d, .string r, .int .i64 vl, .int .i64 pr, .int .i64 34525, .string b] := (Blk.new w1 48 _).same (hq.block _ (by simp))
  clear hq hS
  obtain ⟨r0, r1⟩ : w2.cell? ⟨w.heap.size, 0, none⟩ = some (.int .i64 0) ∧ w2.cell? ⟨w.heap.size, 1, none⟩ = some (.string ⟨#[]⟩) := ⟨hS2.blk.cell 0, hS2.blk.cell 1⟩
  have fr := hS2.blk.frozen
  have hz := hS2.blk.lt
  have hB := hS2.below
  have hB2 := hB
  have hne : w.heap.size ≠ w2.heap.size := by omega
  have f4 : w2.cell? ⟨w1.heap.size, 4, none⟩ = some (.int .i64 34525) := hF2.cell 4
  have hzf := hF2.lt
  have hne2 : w1.heap.size ≠ w2.heap.size := by omega
  go_wp2_with fail
  refine bodyPost_ret (v := .agg #[.int .i64 4, .string (src ++ dst)]) (by simp [results, Try.results11, go_sem, r0, r1, hz]) rfl ⟨rfl, ?_⟩
  (with_reducible (repeat' (first | exact hB | exact hB2 | exact Below.refl _ _ | refine below_drewN ?_ _ | refine Below.drew ?_ | refine Below.alloc ?_ (by first | (simp; done) | (simp; omega) | omega) _ | refine Below.setCell ?_ (by first | (simp; done) | (simp; omega) | omega) _)))
set_option maxRecDepth 100000 in
set_option maxHeartbeats 1600000 in
theorem rof_bare_6g (s : ByteArray) (w : World) (d r : ByteArray) (vl pr : Int) (b : ByteArray) (src dst : ByteArray) (proto hops cls id flags off label : Int) (opt body : ByteArray) (X : Int) (x1 : flags.tmod 2 = X) (y1 : src.size ≤ 16) (y2 : dst.size ≤ 16) (g1 : (proto == 6) = false) (g2 : (proto == 17) = true) (g3 : (off == 0) = true) (g4 : (X == 0) = false)
    (A : ∀ W, Calls Try.prog 26 #[.string s] W fun e w' => e = .returned (.tuple #[.agg #[.string d, .string r, .int .i64 vl, .int .i64 pr, .int .i64 34525, .string b], .int .i64 0]) ∧ Below W.heap.size W w') (AI : ∀ W, Calls Try.prog 27 #[.string b] W fun e w' => e = .returned (.tuple #[.agg #[.int .i64 6, .string src, .string dst, .int .i64 proto, .int .i64 hops, .int .i64 cls, .int .i64 id, .int .i64 flags, .int .i64 off, .int .i64 label, .string opt, .string body], .int .i64 0]) ∧ Below W.heap.size W w') : Calls Try.prog 11 #[.string s] w (OfIs w 4 (src ++ dst)) := by
  have HA := Lib.hid A
  have HI := Lib.hid AI
  clear A AI
  have y3 : ¬ 9223372036854775807 < src.size + dst.size := by omega
  go_enter Try.func11, Try.ntmps11
  go_wp2_with fail
  refine (HA.out _).mono ?_
  rintro e w1 ⟨rfl, hq⟩
  have hS := (Held.new w 24 #[.int .i64 0, .string ⟨#[]⟩]).next hq
  clear hq
  go_wp2_with fail
  refine (HI.out _).mono ?_
  rintro e w2 ⟨rfl, hq⟩
  have hz1 := hS.blk.lt
  have hS2 : Held w 24 #[.int .i64 0, .string ⟨#[]⟩] w2 := ⟨(hS.blk.alloc _).same (hq.block _ (by simp; omega)), (hS.below.alloc (by omega) _).trans (hq.mono (by simp; omega))⟩
  have hF2 : Blk w2 w1.heap.size 48 #[.string d, .string r, .int .i64 vl, .int .i64 pr, .int .i64 34525, .string b] := (Blk.new w1 48 _).same (hq.block _ (by simp))
  clear hq hS
  obtain ⟨r0, r1⟩ : w2.cell? ⟨w.heap.size, 0, none⟩ = some (.int .i64 0) ∧ w2.cell? ⟨w.heap.size, 1, none⟩ = some (.string ⟨#[]⟩) := ⟨hS2.blk.cell 0, hS2.blk.cell 1⟩
  have fr := hS2.blk.frozen
  have hz := hS2.blk.lt
  have hB := hS2.below
  have hB2 := hB
  have hne : w.heap.size ≠ w2.heap.size := by omega
  have f4 : w2.cell? ⟨w1.heap.size, 4, none⟩ = some (.int .i64 34525) := hF2.cell 4
  have hzf := hF2.lt
  have hne2 : w1.heap.size ≠ w2.heap.size := by omega
  go_wp2_with fail
  refine bodyPost_ret (v := .agg #[.int .i64 4, .string (src ++ dst)]) (by simp [results, Try.results11, go_sem, r0, r1, hz]) rfl ⟨rfl, ?_⟩
  (with_reducible (repeat' (first | exact hB | exact hB2 | exact Below.refl _ _ | refine below_drewN ?_ _ | refine Below.drew ?_ | refine Below.alloc ?_ (by first | (simp; done) | (simp; omega) | omega) _ | refine Below.setCell ?_ (by first | (simp; done) | (simp; omega) | omega) _)))
set_option maxRecDepth 100000 in
set_option maxHeartbeats 1600000 in
theorem rof_bare_6h (s : ByteArray) (w : World) (d r : ByteArray) (vl pr : Int) (b : ByteArray) (src dst : ByteArray) (proto hops cls id flags off label : Int) (opt body : ByteArray) (X : Int) (x1 : flags.tmod 2 = X) (y1 : src.size ≤ 16) (y2 : dst.size ≤ 16) (g1 : (proto == 6) = true) (g3 : (off == 0) = true) (g4 : (X == 0) = true) (g5 : (body.size : Int) < 4)
    (A : ∀ W, Calls Try.prog 26 #[.string s] W fun e w' => e = .returned (.tuple #[.agg #[.string d, .string r, .int .i64 vl, .int .i64 pr, .int .i64 34525, .string b], .int .i64 0]) ∧ Below W.heap.size W w') (AI : ∀ W, Calls Try.prog 27 #[.string b] W fun e w' => e = .returned (.tuple #[.agg #[.int .i64 6, .string src, .string dst, .int .i64 proto, .int .i64 hops, .int .i64 cls, .int .i64 id, .int .i64 flags, .int .i64 off, .int .i64 label, .string opt, .string body], .int .i64 0]) ∧ Below W.heap.size W w') : Calls Try.prog 11 #[.string s] w (OfIs w 4 (src ++ dst)) := by
  have HA := Lib.hid A
  have HI := Lib.hid AI
  clear A AI
  have y3 : ¬ 9223372036854775807 < src.size + dst.size := by omega
  go_enter Try.func11, Try.ntmps11
  go_wp2_with fail
  refine (HA.out _).mono ?_
  rintro e w1 ⟨rfl, hq⟩
  have hS := (Held.new w 24 #[.int .i64 0, .string ⟨#[]⟩]).next hq
  clear hq
  go_wp2_with fail
  refine (HI.out _).mono ?_
  rintro e w2 ⟨rfl, hq⟩
  have hz1 := hS.blk.lt
  have hS2 : Held w 24 #[.int .i64 0, .string ⟨#[]⟩] w2 := ⟨(hS.blk.alloc _).same (hq.block _ (by simp; omega)), (hS.below.alloc (by omega) _).trans (hq.mono (by simp; omega))⟩
  have hF2 : Blk w2 w1.heap.size 48 #[.string d, .string r, .int .i64 vl, .int .i64 pr, .int .i64 34525, .string b] := (Blk.new w1 48 _).same (hq.block _ (by simp))
  clear hq hS
  obtain ⟨r0, r1⟩ : w2.cell? ⟨w.heap.size, 0, none⟩ = some (.int .i64 0) ∧ w2.cell? ⟨w.heap.size, 1, none⟩ = some (.string ⟨#[]⟩) := ⟨hS2.blk.cell 0, hS2.blk.cell 1⟩
  have fr := hS2.blk.frozen
  have hz := hS2.blk.lt
  have hB := hS2.below
  have hB2 := hB
  have hne : w.heap.size ≠ w2.heap.size := by omega
  have f4 : w2.cell? ⟨w1.heap.size, 4, none⟩ = some (.int .i64 34525) := hF2.cell 4
  have hzf := hF2.lt
  have hne2 : w1.heap.size ≠ w2.heap.size := by omega
  go_wp2_with fail
  refine bodyPost_ret (v := .agg #[.int .i64 4, .string (src ++ dst)]) (by simp [results, Try.results11, go_sem, r0, r1, hz]) rfl ⟨rfl, ?_⟩
  (with_reducible (repeat' (first | exact hB | exact hB2 | exact Below.refl _ _ | refine below_drewN ?_ _ | refine Below.drew ?_ | refine Below.alloc ?_ (by first | (simp; done) | (simp; omega) | omega) _ | refine Below.setCell ?_ (by first | (simp; done) | (simp; omega) | omega) _)))
set_option maxRecDepth 100000 in
set_option maxHeartbeats 1600000 in
theorem rof_bare_6i (s : ByteArray) (w : World) (d r : ByteArray) (vl pr : Int) (b : ByteArray) (src dst : ByteArray) (proto hops cls id flags off label : Int) (opt body : ByteArray) (X : Int) (x1 : flags.tmod 2 = X) (y1 : src.size ≤ 16) (y2 : dst.size ≤ 16) (g1 : (proto == 6) = false) (g2 : (proto == 17) = true) (g3 : (off == 0) = true) (g4 : (X == 0) = true) (g5 : (body.size : Int) < 4)
    (A : ∀ W, Calls Try.prog 26 #[.string s] W fun e w' => e = .returned (.tuple #[.agg #[.string d, .string r, .int .i64 vl, .int .i64 pr, .int .i64 34525, .string b], .int .i64 0]) ∧ Below W.heap.size W w') (AI : ∀ W, Calls Try.prog 27 #[.string b] W fun e w' => e = .returned (.tuple #[.agg #[.int .i64 6, .string src, .string dst, .int .i64 proto, .int .i64 hops, .int .i64 cls, .int .i64 id, .int .i64 flags, .int .i64 off, .int .i64 label, .string opt, .string body], .int .i64 0]) ∧ Below W.heap.size W w') : Calls Try.prog 11 #[.string s] w (OfIs w 4 (src ++ dst)) := by
  have HA := Lib.hid A
  have HI := Lib.hid AI
  clear A AI
  have y3 : ¬ 9223372036854775807 < src.size + dst.size := by omega
  go_enter Try.func11, Try.ntmps11
  go_wp2_with fail
  refine (HA.out _).mono ?_
  rintro e w1 ⟨rfl, hq⟩
  have hS := (Held.new w 24 #[.int .i64 0, .string ⟨#[]⟩]).next hq
  clear hq
  go_wp2_with fail
  refine (HI.out _).mono ?_
  rintro e w2 ⟨rfl, hq⟩
  have hz1 := hS.blk.lt
  have hS2 : Held w 24 #[.int .i64 0, .string ⟨#[]⟩] w2 := ⟨(hS.blk.alloc _).same (hq.block _ (by simp; omega)), (hS.below.alloc (by omega) _).trans (hq.mono (by simp; omega))⟩
  have hF2 : Blk w2 w1.heap.size 48 #[.string d, .string r, .int .i64 vl, .int .i64 pr, .int .i64 34525, .string b] := (Blk.new w1 48 _).same (hq.block _ (by simp))
  clear hq hS
  obtain ⟨r0, r1⟩ : w2.cell? ⟨w.heap.size, 0, none⟩ = some (.int .i64 0) ∧ w2.cell? ⟨w.heap.size, 1, none⟩ = some (.string ⟨#[]⟩) := ⟨hS2.blk.cell 0, hS2.blk.cell 1⟩
  have fr := hS2.blk.frozen
  have hz := hS2.blk.lt
  have hB := hS2.below
  have hB2 := hB
  have hne : w.heap.size ≠ w2.heap.size := by omega
  have f4 : w2.cell? ⟨w1.heap.size, 4, none⟩ = some (.int .i64 34525) := hF2.cell 4
  have hzf := hF2.lt
  have hne2 : w1.heap.size ≠ w2.heap.size := by omega
  go_wp2_with fail
  refine bodyPost_ret (v := .agg #[.int .i64 4, .string (src ++ dst)]) (by simp [results, Try.results11, go_sem, r0, r1, hz]) rfl ⟨rfl, ?_⟩
  (with_reducible (repeat' (first | exact hB | exact hB2 | exact Below.refl _ _ | refine below_drewN ?_ _ | refine Below.drew ?_ | refine Below.alloc ?_ (by first | (simp; done) | (simp; omega) | omega) _ | refine Below.setCell ?_ (by first | (simp; done) | (simp; omega) | omega) _)))
set_option maxRecDepth 100000 in
set_option maxHeartbeats 1600000 in
theorem rof_port_6a (s : ByteArray) (w : World) (d r : ByteArray) (vl pr : Int) (b : ByteArray) (src dst : ByteArray) (proto hops cls id flags off label : Int) (opt body : ByteArray) (X : Int) (x1 : flags.tmod 2 = X) (y1 : src.size ≤ 16) (y2 : dst.size ≤ 16) (g1 : (proto == 6) = true) (g2 : (proto == 17) = false) (g3 : (off == 0) = true) (g4 : (X == 0) = true) (g5 : 4 ≤ body.size)
    (A : ∀ W, Calls Try.prog 26 #[.string s] W fun e w' => e = .returned (.tuple #[.agg #[.string d, .string r, .int .i64 vl, .int .i64 pr, .int .i64 34525, .string b], .int .i64 0]) ∧ Below W.heap.size W w') (AI : ∀ W, Calls Try.prog 27 #[.string b] W fun e w' => e = .returned (.tuple #[.agg #[.int .i64 6, .string src, .string dst, .int .i64 proto, .int .i64 hops, .int .i64 cls, .int .i64 id, .int .i64 flags, .int .i64 off, .int .i64 label, .string opt, .string body], .int .i64 0]) ∧ Below W.heap.size W w') : Calls Try.prog 11 #[.string s] w (OfIs w 5 (src ++ dst ++ body.extract 0 4)) := by
  have HA := Lib.hid A
  have HI := Lib.hid AI
  clear A AI
  have y3 : ¬ 9223372036854775807 < src.size + dst.size := by omega
  have y4 : (body.extract 0 4).size = 4 := by rw [ByteArray.size_extract]; omega
  have y5 : ¬ 9223372036854775807 < (src ++ dst).size + (body.extract 0 4).size := by rw [y4, ByteArray.size_append]; omega
  have y6 : (4 : Int) ≤ body.size := by omega
  have y7 : ¬ (body.size : Int) < 4 := by omega
  clear y1 y2
  go_enter Try.func11, Try.ntmps11
  go_wp2_with fail
  refine (HA.out _).mono ?_
  rintro e w1 ⟨rfl, hq⟩
  have hS := (Held.new w 24 #[.int .i64 0, .string ⟨#[]⟩]).next hq
  clear hq
  go_wp2_with fail
  refine (HI.out _).mono ?_
  rintro e w2 ⟨rfl, hq⟩
  have hz1 := hS.blk.lt
  have hS2 : Held w 24 #[.int .i64 0, .string ⟨#[]⟩] w2 := ⟨(hS.blk.alloc _).same (hq.block _ (by simp; omega)), (hS.below.alloc (by omega) _).trans (hq.mono (by simp; omega))⟩
  have hF2 : Blk w2 w1.heap.size 48 #[.string d, .string r, .int .i64 vl, .int .i64 pr, .int .i64 34525, .string b] := (Blk.new w1 48 _).same (hq.block _ (by simp))
  clear hq hS
  obtain ⟨r0, r1⟩ : w2.cell? ⟨w.heap.size, 0, none⟩ = some (.int .i64 0) ∧ w2.cell? ⟨w.heap.size, 1, none⟩ = some (.string ⟨#[]⟩) := ⟨hS2.blk.cell 0, hS2.blk.cell 1⟩
  have fr := hS2.blk.frozen
  have hz := hS2.blk.lt
  have hB := hS2.below
  have hB2 := hB
  have hne : w.heap.size ≠ w2.heap.size := by omega
  have f4 : w2.cell? ⟨w1.heap.size, 4, none⟩ = some (.int .i64 34525) := hF2.cell 4
  have hzf := hF2.lt
  have hne2 : w1.heap.size ≠ w2.heap.size := by omega
  go_wp2_with fail
  have hP : Blk (w2.alloc (.cells #[.int .i64 6, .string src, .string dst, .int .i64 proto, .int .i64 hops, .int .i64 cls, .int .i64 id, .int .i64 flags, .int .i64 off, .int .i64 label, .string opt, .string body] 35)) w2.heap.size 35 #[.int .i64 6, .string src, .string dst, .int .i64 proto, .int .i64 hops, .int .i64 cls, .int .i64 id, .int .i64 flags, .int .i64 off, .int .i64 label, .string opt, .string body] := Blk.new w2 35 _
  have hS3 : Held w 24 #[.int .i64 0, .string ⟨#[]⟩] (w2.alloc (.cells #[.int .i64 6, .string src, .string dst, .int .i64 proto, .int .i64 hops, .int .i64 cls, .int .i64 id, .int .i64 flags, .int .i64 off, .int .i64 label, .string opt, .string body] 35)) := ⟨hS2.blk.alloc _, hS2.below.alloc (by omega) _⟩
  clear r0 r1 fr hB hB2 f4 hS2 hF2
  generalize w2.alloc (.cells #[.int .i64 6, .string src, .string dst, .int .i64 proto, .int .i64 hops, .int .i64 cls, .int .i64 id, .int .i64 flags, .int .i64 off, .int .i64 label, .string opt, .string body] 35) = W0 at *
  obtain ⟨r0, r1⟩ : W0.cell? ⟨w.heap.size, 0, none⟩ = some (.int .i64 0) ∧ W0.cell? ⟨w.heap.size, 1, none⟩ = some (.string ⟨#[]⟩) := ⟨hS3.blk.cell 0, hS3.blk.cell 1⟩
  have fr := hS3.blk.frozen
  have hB := hS3.below
  have hB2 := hB
  have q1 : W0.cell? ⟨w2.heap.size, 1, none⟩ = some (.string src) := hP.cell 1
  have q2 : W0.cell? ⟨w2.heap.size, 2, none⟩ = some (.string dst) := hP.cell 2
  have q3 : W0.cell? ⟨w2.heap.size, 11, none⟩ = some (.string body) := hP.cell 11
  clear hP hS3
  go_region
  go_wp2_with fail
  refine bodyPost_ret (v := .agg #[.int .i64 5, .string (src ++ dst ++ body.extract 0 4)]) (by simp [results, Try.results11, go_sem, r0, r1]) rfl ⟨rfl, ?_⟩
  (with_reducible (repeat' (first | exact hB | exact hB2 | exact Below.refl _ _ | refine below_drewN ?_ _ | refine Below.drew ?_ | refine Below.alloc ?_ (by first | (simp; done) | (simp; omega) | omega) _ | refine Below.setCell ?_ (by first | (simp; done) | (simp; omega) | omega) _)))
set_option maxRecDepth 100000 in
set_option maxHeartbeats 1600000 in
theorem rof_port_6b (s : ByteArray) (w : World) (d r : ByteArray) (vl pr : Int) (b : ByteArray) (src dst : ByteArray) (proto hops cls id flags off label : Int) (opt body : ByteArray) (X : Int) (x1 : flags.tmod 2 = X) (y1 : src.size ≤ 16) (y2 : dst.size ≤ 16) (g1 : (proto == 6) = false) (g2 : (proto == 17) = true) (g3 : (off == 0) = true) (g4 : (X == 0) = true) (g5 : 4 ≤ body.size)
    (A : ∀ W, Calls Try.prog 26 #[.string s] W fun e w' => e = .returned (.tuple #[.agg #[.string d, .string r, .int .i64 vl, .int .i64 pr, .int .i64 34525, .string b], .int .i64 0]) ∧ Below W.heap.size W w') (AI : ∀ W, Calls Try.prog 27 #[.string b] W fun e w' => e = .returned (.tuple #[.agg #[.int .i64 6, .string src, .string dst, .int .i64 proto, .int .i64 hops, .int .i64 cls, .int .i64 id, .int .i64 flags, .int .i64 off, .int .i64 label, .string opt, .string body], .int .i64 0]) ∧ Below W.heap.size W w') : Calls Try.prog 11 #[.string s] w (OfIs w 6 (src ++ dst ++ body.extract 0 4)) := by
  have HA := Lib.hid A
  have HI := Lib.hid AI
  clear A AI
  have y3 : ¬ 9223372036854775807 < src.size + dst.size := by omega
  have y4 : (body.extract 0 4).size = 4 := by rw [ByteArray.size_extract]; omega
  have y5 : ¬ 9223372036854775807 < (src ++ dst).size + (body.extract 0 4).size := by rw [y4, ByteArray.size_append]; omega
  have y6 : (4 : Int) ≤ body.size := by omega
  have y7 : ¬ (body.size : Int) < 4 := by omega
  clear y1 y2
  go_enter Try.func11, Try.ntmps11
  go_wp2_with fail
  refine (HA.out _).mono ?_
  rintro e w1 ⟨rfl, hq⟩
  have hS := (Held.new w 24 #[.int .i64 0, .string ⟨#[]⟩]).next hq
  clear hq
  go_wp2_with fail
  refine (HI.out _).mono ?_
  rintro e w2 ⟨rfl, hq⟩
  have hz1 := hS.blk.lt
  have hS2 : Held w 24 #[.int .i64 0, .string ⟨#[]⟩] w2 := ⟨(hS.blk.alloc _).same (hq.block _ (by simp; omega)), (hS.below.alloc (by omega) _).trans (hq.mono (by simp; omega))⟩
  have hF2 : Blk w2 w1.heap.size 48 #[.string d, .string r, .int .i64 vl, .int .i64 pr, .int .i64 34525, .string b] := (Blk.new w1 48 _).same (hq.block _ (by simp))
  clear hq hS
  obtain ⟨r0, r1⟩ : w2.cell? ⟨w.heap.size, 0, none⟩ = some (.int .i64 0) ∧ w2.cell? ⟨w.heap.size, 1, none⟩ = some (.string ⟨#[]⟩) := ⟨hS2.blk.cell 0, hS2.blk.cell 1⟩
  have fr := hS2.blk.frozen
  have hz := hS2.blk.lt
  have hB := hS2.below
  have hB2 := hB
  have hne : w.heap.size ≠ w2.heap.size := by omega
  have f4 : w2.cell? ⟨w1.heap.size, 4, none⟩ = some (.int .i64 34525) := hF2.cell 4
  have hzf := hF2.lt
  have hne2 : w1.heap.size ≠ w2.heap.size := by omega
  go_wp2_with fail
  have hP : Blk (w2.alloc (.cells #[.int .i64 6, .string src, .string dst, .int .i64 proto, .int .i64 hops, .int .i64 cls, .int .i64 id, .int .i64 flags, .int .i64 off, .int .i64 label, .string opt, .string body] 35)) w2.heap.size 35 #[.int .i64 6, .string src, .string dst, .int .i64 proto, .int .i64 hops, .int .i64 cls, .int .i64 id, .int .i64 flags, .int .i64 off, .int .i64 label, .string opt, .string body] := Blk.new w2 35 _
  have hS3 : Held w 24 #[.int .i64 0, .string ⟨#[]⟩] (w2.alloc (.cells #[.int .i64 6, .string src, .string dst, .int .i64 proto, .int .i64 hops, .int .i64 cls, .int .i64 id, .int .i64 flags, .int .i64 off, .int .i64 label, .string opt, .string body] 35)) := ⟨hS2.blk.alloc _, hS2.below.alloc (by omega) _⟩
  clear r0 r1 fr hB hB2 f4 hS2 hF2
  generalize w2.alloc (.cells #[.int .i64 6, .string src, .string dst, .int .i64 proto, .int .i64 hops, .int .i64 cls, .int .i64 id, .int .i64 flags, .int .i64 off, .int .i64 label, .string opt, .string body] 35) = W0 at *
  obtain ⟨r0, r1⟩ : W0.cell? ⟨w.heap.size, 0, none⟩ = some (.int .i64 0) ∧ W0.cell? ⟨w.heap.size, 1, none⟩ = some (.string ⟨#[]⟩) := ⟨hS3.blk.cell 0, hS3.blk.cell 1⟩
  have fr := hS3.blk.frozen
  have hB := hS3.below
  have hB2 := hB
  have q1 : W0.cell? ⟨w2.heap.size, 1, none⟩ = some (.string src) := hP.cell 1
  have q2 : W0.cell? ⟨w2.heap.size, 2, none⟩ = some (.string dst) := hP.cell 2
  have q3 : W0.cell? ⟨w2.heap.size, 11, none⟩ = some (.string body) := hP.cell 11
  clear hP hS3
  go_region
  go_wp2_with fail
  refine bodyPost_ret (v := .agg #[.int .i64 6, .string (src ++ dst ++ body.extract 0 4)]) (by simp [results, Try.results11, go_sem, r0, r1]) rfl ⟨rfl, ?_⟩
  (with_reducible (repeat' (first | exact hB | exact hB2 | exact Below.refl _ _ | refine below_drewN ?_ _ | refine Below.drew ?_ | refine Below.alloc ?_ (by first | (simp; done) | (simp; omega) | omega) _ | refine Below.setCell ?_ (by first | (simp; done) | (simp; omega) | omega) _)))
end Go.Proofs.Ytpelohmondhiiaa
namespace Go.Proofs.Ytpelohmondhiiaa
open Go.RowKit

theorem ipP_v {s : ByteArray} (h : ipE s = 0) : (ipP s).v = 4 ∨ (ipP s).v = 6 := by
  rw [ipP, if_pos h]
  split
  · exact .inl rfl
  · exact .inr rfl
theorem ipP_flags (s : ByteArray) : 0 ≤ (ipP s).flags := by
  unfold ipP
  split
  · split
    · show (0 : Int) ≤ (nat s 6 2 : Int) / 8192; omega
    · exact Int.le_refl _
  · exact Int.le_refl _
theorem shB_iff {flags off : Int} {body : ByteArray} : shB flags off body = true ↔ off = 0 ∧ flags % 2 = 0 ∧ 4 ≤ body.size := by
  unfold shB
  rw [low1]
  simp only [Bool.and_eq_true, beq_iff_eq, decide_eq_true_eq]
  omega
theorem flow_is (p : Pk) (a : Int) (ha : a = if p.v = 4 then 1 else 4) :
    (shB p.flags p.off p.body = true ∧ p.proto = 6 → (⟨kindV p, keyV p⟩ : Fw) = ⟨a + 1, p.src ++ p.dst ++ p.body.extract 0 4⟩) ∧
    (shB p.flags p.off p.body = true ∧ p.proto = 17 → (⟨kindV p, keyV p⟩ : Fw) = ⟨a + 2, p.src ++ p.dst ++ p.body.extract 0 4⟩) ∧
    (¬ (shB p.flags p.off p.body = true ∧ (p.proto = 6 ∨ p.proto = 17)) → (⟨kindV p, keyV p⟩ : Fw) = ⟨a, p.src ++ p.dst⟩) := by
  have K : kindV p = chV (shB p.flags p.off p.body) p.proto a (a + 1) (a + 2) := by
    unfold kindV
    split <;> rename_i h
    · rw [ha, if_pos h]; rfl
    · rw [ha, if_neg h]; rfl
  have ha' : a = 1 ∨ a = 4 := by rw [ha]; split <;> simp
  refine ⟨fun ⟨h1, h2⟩ => ?_, fun ⟨h1, h2⟩ => ?_, fun h => ?_⟩
  · have k : kindV p = a + 1 := by rw [K, chV, if_pos h1, if_pos h2]
    rw [keyV, k, if_neg (by omega)]
  · have k : kindV p = a + 2 := by rw [K, chV, if_pos h1, if_neg (by omega), if_pos h2]
    rw [keyV, k, if_neg (by omega)]
  · have k : kindV p = a := by
      rw [K, chV]
      split
      · rw [if_neg (fun x => h ⟨by assumption, .inl x⟩), if_neg (fun x => h ⟨by assumption, .inr x⟩)]
      · rfl
    rw [keyV, k, if_pos (by omega)]
theorem rof_good_4 (s : ByteArray) (w : World) (d r : ByteArray) (vl pr : Int) (b : ByteArray) (p : Pk) (hv : p.v = 4) (hf : 0 ≤ p.flags) (y1 : p.src.size ≤ 16) (y2 : p.dst.size ≤ 16)
    (A : ∀ W, Calls Try.prog 26 #[.string s] W fun e w' => e = .returned (.tuple #[.agg #[.string d, .string r, .int .i64 vl, .int .i64 pr, .int .i64 2048, .string b], .int .i64 0]) ∧ Below W.heap.size W w')
    (AI : ∀ W, Calls Try.prog 27 #[.string b] W fun e w' => e = .returned (.tuple #[p.val, .int .i64 0]) ∧ Below W.heap.size W w') :
    Calls Try.prog 11 #[.string s] w (OfIs w (⟨kindV p, keyV p⟩ : Fw).kind (⟨kindV p, keyV p⟩ : Fw).key) := by
  have hx : p.flags.tmod 2 = p.flags % 2 := Int.tmod_eq_emod_of_nonneg hf
  simp only [Pk.val, pkC, hv] at AI
  have FI := flow_is p 1 (by rw [hv]; rfl)
  by_cases p6 : p.proto = 6
  · have g1 : (p.proto == 6) = true := by simpa using p6
    have g2 : (p.proto == 17) = false := by simpa using (by omega : p.proto ≠ 17)
    by_cases o0 : p.off = 0
    · have g3 : (p.off == 0) = true := by simpa using o0
      by_cases f0 : p.flags % 2 = 0
      · have g4 : (p.flags % 2 == 0) = true := by simpa using f0
        by_cases b4 : 4 ≤ p.body.size
        · rw [FI.1 ⟨shB_iff.2 ⟨o0, f0, b4⟩, p6⟩]
          exact rof_port_4a s w _ _ _ _ _ _ _ _ _ _ _ _ _ _ _ _ _ hx y1 y2 g1 g2 g3 g4 b4 A AI
        · rw [FI.2.2 (fun x => b4 (shB_iff.1 x.1).2.2)]
          exact rof_bare_4h s w _ _ _ _ _ _ _ _ _ _ _ _ _ _ _ _ _ hx y1 y2 g1 g3 g4 (by omega) A AI
      · have g4 : (p.flags % 2 == 0) = false := by simpa using f0
        rw [FI.2.2 (fun x => f0 (shB_iff.1 x.1).2.1)]
        exact rof_bare_4f s w _ _ _ _ _ _ _ _ _ _ _ _ _ _ _ _ _ hx y1 y2 g1 g3 g4 A AI
    · have g3 : (p.off == 0) = false := by simpa using o0
      rw [FI.2.2 (fun x => o0 (shB_iff.1 x.1).1)]
      exact rof_bare_4d s w _ _ _ _ _ _ _ _ _ _ _ _ _ _ _ _ y1 y2 g1 g3 A AI
  · have g1 : (p.proto == 6) = false := by simpa using p6
    by_cases p17 : p.proto = 17
    · have g2 : (p.proto == 17) = true := by simpa using p17
      by_cases o0 : p.off = 0
      · have g3 : (p.off == 0) = true := by simpa using o0
        by_cases f0 : p.flags % 2 = 0
        · have g4 : (p.flags % 2 == 0) = true := by simpa using f0
          by_cases b4 : 4 ≤ p.body.size
          · rw [FI.2.1 ⟨shB_iff.2 ⟨o0, f0, b4⟩, p17⟩]
            exact rof_port_4b s w _ _ _ _ _ _ _ _ _ _ _ _ _ _ _ _ _ hx y1 y2 g1 g2 g3 g4 b4 A AI
          · rw [FI.2.2 (fun x => b4 (shB_iff.1 x.1).2.2)]
            exact rof_bare_4i s w _ _ _ _ _ _ _ _ _ _ _ _ _ _ _ _ _ hx y1 y2 g1 g2 g3 g4 (by omega) A AI
        · have g4 : (p.flags % 2 == 0) = false := by simpa using f0
          rw [FI.2.2 (fun x => f0 (shB_iff.1 x.1).2.1)]
          exact rof_bare_4g s w _ _ _ _ _ _ _ _ _ _ _ _ _ _ _ _ _ hx y1 y2 g1 g2 g3 g4 A AI
      · have g3 : (p.off == 0) = false := by simpa using o0
        rw [FI.2.2 (fun x => o0 (shB_iff.1 x.1).1)]
        exact rof_bare_4e s w _ _ _ _ _ _ _ _ _ _ _ _ _ _ _ _ y1 y2 g1 g2 g3 A AI
    · have g2 : (p.proto == 17) = false := by simpa using p17
      rw [FI.2.2 (fun x => x.2.elim p6 p17)]
      exact rof_bare_4c s w _ _ _ _ _ _ _ _ _ _ _ _ _ _ _ _ y1 y2 g1 g2 A AI
theorem rof_good_6 (s : ByteArray) (w : World) (d r : ByteArray) (vl pr : Int) (b : ByteArray) (p : Pk) (hv : p.v = 6) (hf : 0 ≤ p.flags) (y1 : p.src.size ≤ 16) (y2 : p.dst.size ≤ 16)
    (A : ∀ W, Calls Try.prog 26 #[.string s] W fun e w' => e = .returned (.tuple #[.agg #[.string d, .string r, .int .i64 vl, .int .i64 pr, .int .i64 34525, .string b], .int .i64 0]) ∧ Below W.heap.size W w')
    (AI : ∀ W, Calls Try.prog 27 #[.string b] W fun e w' => e = .returned (.tuple #[p.val, .int .i64 0]) ∧ Below W.heap.size W w') :
    Calls Try.prog 11 #[.string s] w (OfIs w (⟨kindV p, keyV p⟩ : Fw).kind (⟨kindV p, keyV p⟩ : Fw).key) := by
  have hx : p.flags.tmod 2 = p.flags % 2 := Int.tmod_eq_emod_of_nonneg hf
  simp only [Pk.val, pkC, hv] at AI
  have FI := flow_is p 4 (by rw [hv]; rfl)
  by_cases p6 : p.proto = 6
  · have g1 : (p.proto == 6) = true := by simpa using p6
    have g2 : (p.proto == 17) = false := by simpa using (by omega : p.proto ≠ 17)
    by_cases o0 : p.off = 0
    · have g3 : (p.off == 0) = true := by simpa using o0
      by_cases f0 : p.flags % 2 = 0
      · have g4 : (p.flags % 2 == 0) = true := by simpa using f0
        by_cases b4 : 4 ≤ p.body.size
        · rw [FI.1 ⟨shB_iff.2 ⟨o0, f0, b4⟩, p6⟩]
          exact rof_port_6a s w _ _ _ _ _ _ _ _ _ _ _ _ _ _ _ _ _ hx y1 y2 g1 g2 g3 g4 b4 A AI
        · rw [FI.2.2 (fun x => b4 (shB_iff.1 x.1).2.2)]
          exact rof_bare_6h s w _ _ _ _ _ _ _ _ _ _ _ _ _ _ _ _ _ hx y1 y2 g1 g3 g4 (by omega) A AI
      · have g4 : (p.flags % 2 == 0) = false := by simpa using f0
        rw [FI.2.2 (fun x => f0 (shB_iff.1 x.1).2.1)]
        exact rof_bare_6f s w _ _ _ _ _ _ _ _ _ _ _ _ _ _ _ _ _ hx y1 y2 g1 g3 g4 A AI
    · have g3 : (p.off == 0) = false := by simpa using o0
      rw [FI.2.2 (fun x => o0 (shB_iff.1 x.1).1)]
      exact rof_bare_6d s w _ _ _ _ _ _ _ _ _ _ _ _ _ _ _ _ y1 y2 g1 g3 A AI
  · have g1 : (p.proto == 6) = false := by simpa using p6
    by_cases p17 : p.proto = 17
    · have g2 : (p.proto == 17) = true := by simpa using p17
      by_cases o0 : p.off = 0
      · have g3 : (p.off == 0) = true := by simpa using o0
        by_cases f0 : p.flags % 2 = 0
        · have g4 : (p.flags % 2 == 0) = true := by simpa using f0
          by_cases b4 : 4 ≤ p.body.size
          · rw [FI.2.1 ⟨shB_iff.2 ⟨o0, f0, b4⟩, p17⟩]
            exact rof_port_6b s w _ _ _ _ _ _ _ _ _ _ _ _ _ _ _ _ _ hx y1 y2 g1 g2 g3 g4 b4 A AI
          · rw [FI.2.2 (fun x => b4 (shB_iff.1 x.1).2.2)]
            exact rof_bare_6i s w _ _ _ _ _ _ _ _ _ _ _ _ _ _ _ _ _ hx y1 y2 g1 g2 g3 g4 (by omega) A AI
        · have g4 : (p.flags % 2 == 0) = false := by simpa using f0
          rw [FI.2.2 (fun x => f0 (shB_iff.1 x.1).2.1)]
          exact rof_bare_6g s w _ _ _ _ _ _ _ _ _ _ _ _ _ _ _ _ _ hx y1 y2 g1 g2 g3 g4 A AI
      · have g3 : (p.off == 0) = false := by simpa using o0
        rw [FI.2.2 (fun x => o0 (shB_iff.1 x.1).1)]
        exact rof_bare_6e s w _ _ _ _ _ _ _ _ _ _ _ _ _ _ _ _ y1 y2 g1 g2 g3 A AI
    · have g2 : (p.proto == 17) = false := by simpa using p17
      rw [FI.2.2 (fun x => x.2.elim p6 p17)]
      exact rof_bare_6c s w _ _ _ _ _ _ _ _ _ _ _ _ _ _ _ _ y1 y2 g1 g2 A AI
theorem rof_any (s : ByteArray) (w : World) : Calls Try.prog 11 #[.string s] w (OfIs w (ofV s).kind (ofV s).key) := by
  have A := fun W => refParse_any s W
  by_cases h1 : parseE s = 0
  · have hb : (parseF s).b.size ≤ 281474976710656 := Nat.le_trans (parse_b h1) (by decide)
    have AI := fun W => refp_any (parseF s).b W hb
    rw [h1] at A
    have y := ipP_addr (parseF s).b
    have hf := ipP_flags (parseF s).b
    by_cases h2 : ipE (parseF s).b = 0
    · rw [h2] at AI
      have hv := ipP_v h2
      simp only [Fr.val, ethC] at A
      by_cases t4 : (parseF s).t = 2048
      · rcases hv with hv | hv
        · have e : ofV s = ⟨kindV (ipP (parseF s).b), keyV (ipP (parseF s).b)⟩ := by rw [ofV, if_pos ⟨h1, h2, by rw [hv, t4]; rfl⟩]
          rw [e]
          rw [t4] at A
          exact rof_good_4 s w _ _ _ _ _ _ hv hf y.1 y.2 A AI
        · have e : ofV s = ⟨0, ⟨#[]⟩⟩ := by
            rw [ofV, if_neg]
            rintro ⟨_, _, h3⟩
            rw [hv, t4] at h3
            exact absurd h3 (by decide)
          rw [e]
          rw [t4] at A
          simp only [Pk.val, pkC, hv] at AI
          exact rof_ver_2048 s w _ _ _ _ _ _ _ _ _ _ _ _ _ _ _ _ A AI
      · by_cases t6 : (parseF s).t = 34525
        · rcases hv with hv | hv
          · have e : ofV s = ⟨0, ⟨#[]⟩⟩ := by
              rw [ofV, if_neg]
              rintro ⟨_, _, h3⟩
              rw [hv, t6] at h3
              exact absurd h3 (by decide)
            rw [e]
            rw [t6] at A
            simp only [Pk.val, pkC, hv] at AI
            exact rof_ver_34525 s w _ _ _ _ _ _ _ _ _ _ _ _ _ _ _ _ A AI
          · have e : ofV s = ⟨kindV (ipP (parseF s).b), keyV (ipP (parseF s).b)⟩ := by rw [ofV, if_pos ⟨h1, h2, by rw [hv, t6]; rfl⟩]
            rw [e]
            rw [t6] at A
            exact rof_good_6 s w _ _ _ _ _ _ hv hf y.1 y.2 A AI
        · have e : ofV s = ⟨0, ⟨#[]⟩⟩ := by
            rw [ofV, if_neg]
            rintro ⟨_, _, h3⟩
            rw [verV, if_neg t4, if_neg t6] at h3
            omega
          rw [e]
          exact rof_type s w _ _ _ _ _ _ (by simpa using t4) (by simpa using t6) A
    · have e : ofV s = ⟨0, ⟨#[]⟩⟩ := by rw [ofV, if_neg (fun h => h2 h.2.1)]
      rw [e]
      simp only [Fr.val, ethC] at A
      by_cases t4 : (parseF s).t = 2048
      · rw [t4] at A
        exact rof_noip_2048 s w _ _ _ _ _ _ _ _ _ _ _ _ _ _ _ _ _ _ (by simpa using h2) A AI
      · by_cases t6 : (parseF s).t = 34525
        · rw [t6] at A
          exact rof_noip_34525 s w _ _ _ _ _ _ _ _ _ _ _ _ _ _ _ _ _ _ (by simpa using h2) A AI
        · exact rof_type s w _ _ _ _ _ _ (by simpa using t4) (by simpa using t6) A
  · have e : ofV s = ⟨0, ⟨#[]⟩⟩ := by rw [ofV, if_neg (fun h => h1 h.1)]
    rw [e]
    exact rof_bad s w _ _ _ _ _ _ _ (by simpa using h1) A
end Go.Proofs.Ytpelohmondhiiaa

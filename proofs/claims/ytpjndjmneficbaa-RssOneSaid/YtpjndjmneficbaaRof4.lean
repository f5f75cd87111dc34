/-
  What the document's Of of a flow answers, for packets of version 4.
-/
import Derived.Test.YtpjndjmneficbaaRpp
namespace Go.Proofs.Ytpjndjmneficbaa
open Go.RowKit

set_option maxRecDepth 100000 in
set_option maxHeartbeats 1600000 in
theorem rof_bare_4c (s : ByteArray) (w : World) (d r : ByteArray) (vl pr : Int) (b : ByteArray) (src dst : ByteArray) (proto hops cls id flags off label : Int) (opt body : ByteArray) (y1 : src.size ≤ 16) (y2 : dst.size ≤ 16) (g1 : (proto == 6) = false) (g2 : (proto == 17) = false)
    (A : ∀ W, Calls Try.prog 40 #[.string s] W fun e w' => e = .returned (.tuple #[.agg #[.string d, .string r, .int .i64 vl, .int .i64 pr, .int .i64 2048, .string b], .int .i64 0]) ∧ Below W.heap.size W w') (AI : ∀ W, Calls Try.prog 41 #[.string b] W fun e w' => e = .returned (.tuple #[.agg #[.int .i64 4, .string src, .string dst, .int .i64 proto, .int .i64 hops, .int .i64 cls, .int .i64 id, .int .i64 flags, .int .i64 off, .int .i64 label, .string opt, .string body], .int .i64 0]) ∧ Below W.heap.size W w') : Calls Try.prog 26 #[.string s] w (OfIs w 1 (src ++ dst)) := by
  have HA := Lib.hid A
  have HI := Lib.hid AI
  clear A AI
  have y3 : ¬ 9223372036854775807 < src.size + dst.size := by omega
  go_enter Try.func26, Try.ntmps26
  go_wp2_with fail
  refine (HA.out _).mono ?_
  rintro e w1 ⟨rfl, hq⟩
  have hS := (Held.new w 38 #[.int .i64 0, .string ⟨#[]⟩]).next hq
  clear hq
  go_wp2_with fail
  refine (HI.out _).mono ?_
  rintro e w2 ⟨rfl, hq⟩
  have hz1 := hS.blk.lt
  have hS2 : Held w 38 #[.int .i64 0, .string ⟨#[]⟩] w2 := ⟨(hS.blk.alloc _).same (hq.block _ (by simp; omega)), (hS.below.alloc (by omega) _).trans (hq.mono (by simp; omega))⟩
  have hF2 : Blk w2 w1.heap.size 51 #[.string d, .string r, .int .i64 vl, .int .i64 pr, .int .i64 2048, .string b] := (Blk.new w1 51 _).same (hq.block _ (by simp))
  clear hq hS
  obtain ⟨r0, r1⟩ : w2.cell? ⟨w.heap.size, 0, none⟩ = some (.int .i64 0) ∧ w2.cell? ⟨w.heap.size, 1, none⟩ = some (.string ⟨#[]⟩) := ⟨hS2.blk.cell 0, hS2.blk.cell 1⟩
  have fr := hS2.blk.frozen
  have hz := hS2.blk.lt
  have hB := hS2.below
  have hB2 := hB
  have hne : w.heap.size ≠ w2.heap.size := by omega
  have f4 : w2.cell? ⟨w1.heap.size, 4, none⟩ = some (.int .i64 2048) := hF2.cell 4
  have hzf := hF2.lt
  have hne2 : w1.heap.size ≠ w2.heap.size := by omega
  go_wp2_with fail
  refine bodyPost_ret (v := .agg #[.int .i64 1, .string (src ++ dst)]) (by simp [results, Try.results26, go_sem, r0, r1, hz]) rfl ⟨rfl, ?_⟩
  (with_reducible (repeat' (first | exact hB | exact hB2 | exact Below.refl _ _ | refine below_drewN ?_ _ | refine Below.drew ?_ | refine Below.alloc ?_ (by first | (simp; done) | (simp; omega) | omega) _ | refine Below.setCell ?_ (by first | (simp; done) | (simp; omega) | omega) _)))
set_option maxRecDepth 100000 in
set_option maxHeartbeats 1600000 in
theorem rof_bare_4d (s : ByteArray) (w : World) (d r : ByteArray) (vl pr : Int) (b : ByteArray) (src dst : ByteArray) (proto hops cls id flags off label : Int) (opt body : ByteArray) (y1 : src.size ≤ 16) (y2 : dst.size ≤ 16) (g1 : (proto == 6) = true) (g3 : (off == 0) = false)
    (A : ∀ W, Calls Try.prog 40 #[.string s] W fun e w' => e = .returned (.tuple #[.agg #[.string d, .string r, .int .i64 vl, .int .i64 pr, .int .i64 2048, .string b], .int .i64 0]) ∧ Below W.heap.size W w') (AI : ∀ W, Calls Try.prog 41 #[.string b] W fun e w' => e = .returned (.tuple #[.agg #[.int .i64 4, .string src, .string dst, .int .i64 proto, .int .i64 hops, .int .i64 cls, .int .i64 id, .int .i64 flags, .int .i64 off, .int .i64 label, .string opt, .string body], .int .i64 0]) ∧ Below W.heap.size W w') : Calls Try.prog 26 #[.string s] w (OfIs w 1 (src ++ dst)) := by
  have HA := Lib.hid A
  have HI := Lib.hid AI
  clear A AI
  have y3 : ¬ 9223372036854775807 < src.size + dst.size := by omega
  go_enter Try.func26, Try.ntmps26
  go_wp2_with fail
  refine (HA.out _).mono ?_
  rintro e w1 ⟨rfl, hq⟩
  have hS := (Held.new w 38 #[.int .i64 0, .string ⟨#[]⟩]).next hq
  clear hq
  go_wp2_with fail
  refine (HI.out _).mono ?_
  rintro e w2 ⟨rfl, hq⟩
  have hz1 := hS.blk.lt
  have hS2 : Held w 38 #[.int .i64 0, .string ⟨#[]⟩] w2 := ⟨(hS.blk.alloc _).same (hq.block _ (by simp; omega)), (hS.below.alloc (by omega) _).trans (hq.mono (by simp; omega))⟩
  have hF2 : Blk w2 w1.heap.size 51 #[.string d, .string r, .int .i64 vl, .int .i64 pr, .int .i64 2048, .string b] := (Blk.new w1 51 _).same (hq.block _ (by simp))
  clear hq hS
  obtain ⟨r0, r1⟩ : w2.cell? ⟨w.heap.size, 0, none⟩ = some (.int .i64 0) ∧ w2.cell? ⟨w.heap.size, 1, none⟩ = some (.string ⟨#[]⟩) := ⟨hS2.blk.cell 0, hS2.blk.cell 1⟩
  have fr := hS2.blk.frozen
  have hz := hS2.blk.lt
  have hB := hS2.below
  have hB2 := hB
  have hne : w.heap.size ≠ w2.heap.size := by omega
  have f4 : w2.cell? ⟨w1.heap.size, 4, none⟩ = some (.int .i64 2048) := hF2.cell 4
  have hzf := hF2.lt
  have hne2 : w1.heap.size ≠ w2.heap.size := by omega
  go_wp2_with fail
  refine bodyPost_ret (v := .agg #[.int .i64 1, .string (src ++ dst)]) (by simp [results, Try.results26, go_sem, r0, r1, hz]) rfl ⟨rfl, ?_⟩
  (with_reducible (repeat' (first | exact hB | exact hB2 | exact Below.refl _ _ | refine below_drewN ?_ _ | refine Below.drew ?_ | refine Below.alloc ?_ (by first | (simp; done) | (simp; omega) | omega) _ | refine Below.setCell ?_ (by first | (simp; done) | (simp; omega) | omega) _)))
set_option maxRecDepth 100000 in
set_option maxHeartbeats 1600000 in
theorem rof_bare_4e (s : ByteArray) (w : World) (d r : ByteArray) (vl pr : Int) (b : ByteArray) (src dst : ByteArray) (proto hops cls id flags off label : Int) (opt body : ByteArray) (y1 : src.size ≤ 16) (y2 : dst.size ≤ 16) (g1 : (proto == 6) = false) (g2 : (proto == 17) = true) (g3 : (off == 0) = false)
    (A : ∀ W, Calls Try.prog 40 #[.string s] W fun e w' => e = .returned (.tuple #[.agg #[.string d, .string r, .int .i64 vl, .int .i64 pr, .int .i64 2048, .string b], .int .i64 0]) ∧ Below W.heap.size W w') (AI : ∀ W, Calls Try.prog 41 #[.string b] W fun e w' => e = .returned (.tuple #[.agg #[.int .i64 4, .string src, .string dst, .int .i64 proto, .int .i64 hops, .int .i64 cls, .int .i64 id, .int .i64 flags, .int .i64 off, .int .i64 label, .string opt, .string body], .int .i64 0]) ∧ Below W.heap.size W w') : Calls Try.prog 26 #[.string s] w (OfIs w 1 (src ++ dst)) := by
  have HA := Lib.hid A
  have HI := Lib.hid AI
  clear A AI
  have y3 : ¬ 9223372036854775807 < src.size + dst.size := by omega
  go_enter Try.func26, Try.ntmps26
  go_wp2_with fail
  refine (HA.out _).mono ?_
  rintro e w1 ⟨rfl, hq⟩
  have hS := (Held.new w 38 #[.int .i64 0, .string ⟨#[]⟩]).next hq
  clear hq
  go_wp2_with fail
  refine (HI.out _).mono ?_
  rintro e w2 ⟨rfl, hq⟩
  have hz1 := hS.blk.lt
  have hS2 : Held w 38 #[.int .i64 0, .string ⟨#[]⟩] w2 := ⟨(hS.blk.alloc _).same (hq.block _ (by simp; omega)), (hS.below.alloc (by omega) _).trans (hq.mono (by simp; omega))⟩
  have hF2 : Blk w2 w1.heap.size 51 #[.string d, .string r, .int .i64 vl, .int .i64 pr, .int .i64 2048, .string b] := (Blk.new w1 51 _).same (hq.block _ (by simp))
  clear hq hS
  obtain ⟨r0, r1⟩ : w2.cell? ⟨w.heap.size, 0, none⟩ = some (.int .i64 0) ∧ w2.cell? ⟨w.heap.size, 1, none⟩ = some (.string ⟨#[]⟩) := ⟨hS2.blk.cell 0, hS2.blk.cell 1⟩
  have fr := hS2.blk.frozen
  have hz := hS2.blk.lt
  have hB := hS2.below
  have hB2 := hB
  have hne : w.heap.size ≠ w2.heap.size := by omega
  have f4 : w2.cell? ⟨w1.heap.size, 4, none⟩ = some (.int .i64 2048) := hF2.cell 4
  have hzf := hF2.lt
  have hne2 : w1.heap.size ≠ w2.heap.size := by omega
  go_wp2_with fail
  refine bodyPost_ret (v := .agg #[.int .i64 1, .string (src ++ dst)]) (by simp [results, Try.results26, go_sem, r0, r1, hz]) rfl ⟨rfl, ?_⟩
  (with_reducible (repeat' (first | exact hB | exact hB2 | exact Below.refl _ _ | refine below_drewN ?_ _ | refine Below.drew ?_ | refine Below.alloc ?_ (by first | (simp; done) | (simp; omega) | omega) _ | refine Below.setCell ?_ (by first | (simp; done) | (simp; omega) | omega) _)))
set_option maxRecDepth 100000 in
set_option maxHeartbeats 1600000 in
theorem rof_bare_4f (s : ByteArray) (w : World) (d r : ByteArray) (vl pr : Int) (b : ByteArray) (src dst : ByteArray) (proto hops cls id flags off label : Int) (opt body : ByteArray) (X : Int) (x1 : flags.tmod 2 = X) (y1 : src.size ≤ 16) (y2 : dst.size ≤ 16) (g1 : (proto == 6) = true) (g3 : (off == 0) = true) (g4 : (X == 0) = false)
    (A : ∀ W, Calls Try.prog 40 #[.string s] W fun e w' => e = .returned (.tuple #[.agg #[.string d, .string r, .int .i64 vl, .int .i64 pr, .int .i64 2048, .string b], .int .i64 0]) ∧ Below W.heap.size W w') (AI : ∀ W, Calls Try.prog 41 #[.string b] W fun e w' => e = .returned (.tuple #[.agg #[.int .i64 4, .string src, .string dst, .int .i64 proto, .int .i64 hops, .int .i64 cls, .int .i64 id, .int .i64 flags, .int .i64 off, .int .i64 label, .string opt, .string body], .int .i64 0]) ∧ Below W.heap.size W w') : Calls Try.prog 26 #[.string s] w (OfIs w 1 (src ++ dst)) := by
  have HA := Lib.hid A
  have HI := Lib.hid AI
  clear A AI
  have y3 : ¬ 9223372036854775807 < src.size + dst.size := by omega
  go_enter Try.func26, Try.ntmps26
  go_wp2_with fail
  refine (HA.out _).mono ?_
  rintro e w1 ⟨rfl, hq⟩
  have hS := (Held.new w 38 #[.int .i64 0, .string ⟨#[]⟩]).next hq
  clear hq
  go_wp2_with fail
  refine (HI.out _).mono ?_
  rintro e w2 ⟨rfl, hq⟩
  have hz1 := hS.blk.lt
  have hS2 : Held w 38 #[.int .i64 0, .string ⟨#[]⟩] w2 := ⟨(hS.blk.alloc _).same (hq.block _ (by simp; omega)), (hS.below.alloc (by omega) _).trans (hq.mono (by simp; omega))⟩
  have hF2 : Blk w2 w1.heap.size 51 #[.string d, .string r, .int .i64 vl, .int .i64 pr, .int .i64 2048, .string b] := (Blk.new w1 51 _).same (hq.block _ (by simp))
  clear hq hS
  obtain ⟨r0, r1⟩ : w2.cell? ⟨w.heap.size, 0, none⟩ = some (.int .i64 0) ∧ w2.cell? ⟨w.heap.size, 1, none⟩ = some (.string ⟨#[]⟩) := ⟨hS2.blk.cell 0, hS2.blk.cell 1⟩
  have fr := hS2.blk.frozen
  have hz := hS2.blk.lt
  have hB := hS2.below
  have hB2 := hB
  have hne : w.heap.size ≠ w2.heap.size := by omega
  have f4 : w2.cell? ⟨w1.heap.size, 4, none⟩ = some (.int .i64 2048) := hF2.cell 4
  have hzf := hF2.lt
  have hne2 : w1.heap.size ≠ w2.heap.size := by omega
  go_wp2_with fail
  refine bodyPost_ret (v := .agg #[.int .i64 1, .string (src ++ dst)]) (by simp [results, Try.results26, go_sem, r0, r1, hz]) rfl ⟨rfl, ?_⟩
  (with_reducible (repeat' (first | exact hB | exact hB2 | exact Below.refl _ _ | refine below_drewN ?_ _ | refine Below.drew ?_ | refine Below.alloc ?_ (by first | (simp; done) | (simp; omega) | omega) _ | refine Below.setCell ?_ (by first | (simp; done) | (simp; omega) | omega) _)))
set_option maxRecDepth 100000 in
set_option maxHeartbeats 1600000 in
theorem rof_bare_4g (s : ByteArray) (w : World) (d r : ByteArray) (vl pr : Int) (b : ByteArray) (src dst : ByteArray) (proto hops cls id flags off label : Int) (opt body : ByteArray) (X : Int) (x1 : flags.tmod 2 = X) (y1 : src.size ≤ 16) (y2 : dst.size ≤ 16) (g1 : (proto == 6) = false) (g2 : (proto == 17) = true) (g3 : (off == 0) = true) (g4 : (X == 0) = false)
    (A : ∀ W, Calls Try.prog 40 #[.string s] W fun e w' => e = .returned (.tuple #[.agg #[.string d, .string r, .int .i64 vl, .int .i64 pr, .int .i64 2048, .string b], .int .i64 0]) ∧ Below W.heap.size W w') (AI : ∀ W, Calls Try.prog 41 #[.string b] W fun e w' => e = .returned (.tuple #[.agg #[.int .i64 4, .string src, .string dst, .int .i64 proto, .int .i64 hops, .int .i64 cls, .int .i64 id, .int .i64 flags, .int .i64 off, .int .i64 label, .string opt, .string body], .int .i64 0]) ∧ Below W.heap.size W w') : Calls Try.prog 26 #[.string s] w (OfIs w 1 (src ++ dst)) := by
  have HA := Lib.hid A
  have HI := Lib.hid AI
  clear A AI
  have y3 : ¬ 9223372036854775807 < src.size + dst.size := by omega
  go_enter Try.func26, Try.ntmps26
  go_wp2_with fail
  refine (HA.out _).mono ?_
  rintro e w1 ⟨rfl, hq⟩
  have hS := (Held.new w 38 #[.int .i64 0, .string ⟨#[]⟩]).next hq
  clear hq
  go_wp2_with fail
  refine (HI.out _).mono ?_
  rintro e w2 ⟨rfl, hq⟩
  have hz1 := hS.blk.lt
  have hS2 : Held w 38 #[.int .i64 0, .string ⟨#[]⟩] w2 := ⟨(hS.blk.alloc _).same (hq.block _ (by simp; omega)), (hS.below.alloc (by omega) _).trans (hq.mono (by simp; omega))⟩
  have hF2 : Blk w2 w1.heap.size 51 #[.string d, .string r, .int .i64 vl, .int .i64 pr, .int .i64 2048, .string b] := (Blk.new w1 51 _).same (hq.block _ (by simp))
  clear hq hS
  obtain ⟨r0, r1⟩ : w2.cell? ⟨w.heap.size, 0, none⟩ = some (.int .i64 0) ∧ w2.cell? ⟨w.heap.size, 1, none⟩ = some (.string ⟨#[]⟩) := ⟨hS2.blk.cell 0, hS2.blk.cell 1⟩
  have fr := hS2.blk.frozen
  have hz := hS2.blk.lt
  have hB := hS2.below
  have hB2 := hB
  have hne : w.heap.size ≠ w2.heap.size := by omega
  have f4 : w2.cell? ⟨w1.heap.size, 4, none⟩ = some (.int .i64 2048) := hF2.cell 4
  have hzf := hF2.lt
  have hne2 : w1.heap.size ≠ w2.heap.size := by omega
  go_wp2_with fail
  refine bodyPost_ret (v := .agg #[.int .i64 1, .string (src ++ dst)]) (by simp [results, Try.results26, go_sem, r0, r1, hz]) rfl ⟨rfl, ?_⟩
  (with_reducible (repeat' (first | exact hB | exact hB2 | exact Below.refl _ _ | refine below_drewN ?_ _ | refine Below.drew ?_ | refine Below.alloc ?_ (by first | (simp; done) | (simp; omega) | omega) _ | refine Below.setCell ?_ (by first | (simp; done) | (simp; omega) | omega) _)))
set_option maxRecDepth 100000 in
set_option maxHeartbeats 1600000 in
theorem rof_bare_4h (s : ByteArray) (w : World) (d r : ByteArray) (vl pr : Int) (b : ByteArray) (src dst : ByteArray) (proto hops cls id flags off label : Int) (opt body : ByteArray) (X : Int) (x1 : flags.tmod 2 = X) (y1 : src.size ≤ 16) (y2 : dst.size ≤ 16) (g1 : (proto == 6) = true) (g3 : (off == 0) = true) (g4 : (X == 0) = true) (g5 : (body.size : Int) < 4)
    (A : ∀ W, Calls Try.prog 40 #[.string s] W fun e w' => e = .returned (.tuple #[.agg #[.string d, .string r, .int .i64 vl, .int .i64 pr, .int .i64 2048, .string b], .int .i64 0]) ∧ Below W.heap.size W w') (AI : ∀ W, Calls Try.prog 41 #[.string b] W fun e w' => e = .returned (.tuple #[.agg #[.int .i64 4, .string src, .string dst, .int .i64 proto, .int .i64 hops, .int .i64 cls, .int .i64 id, .int .i64 flags, .int .i64 off, .int .i64 label, .string opt, .string body], .int .i64 0]) ∧ Below W.heap.size W w') : Calls Try.prog 26 #[.string s] w (OfIs w 1 (src ++ dst)) := by
  have HA := Lib.hid A
  have HI := Lib.hid AI
  clear A AI
  have y3 : ¬ 9223372036854775807 < src.size + dst.size := by omega
  go_enter Try.func26, Try.ntmps26
  go_wp2_with fail
  refine (HA.out _).mono ?_
  rintro e w1 ⟨rfl, hq⟩
  have hS := (Held.new w 38 #[.int .i64 0, .string ⟨#[]⟩]).next hq
  clear hq
  go_wp2_with fail
  refine (HI.out _).mono ?_
  rintro e w2 ⟨rfl, hq⟩
  have hz1 := hS.blk.lt
  have hS2 : Held w 38 #[.int .i64 0, .string ⟨#[]⟩] w2 := ⟨(hS.blk.alloc _).same (hq.block _ (by simp; omega)), (hS.below.alloc (by omega) _).trans (hq.mono (by simp; omega))⟩
  have hF2 : Blk w2 w1.heap.size 51 #[.string d, .string r, .int .i64 vl, .int .i64 pr, .int .i64 2048, .string b] := (Blk.new w1 51 _).same (hq.block _ (by simp))
  clear hq hS
  obtain ⟨r0, r1⟩ : w2.cell? ⟨w.heap.size, 0, none⟩ = some (.int .i64 0) ∧ w2.cell? ⟨w.heap.size, 1, none⟩ = some (.string ⟨#[]⟩) := ⟨hS2.blk.cell 0, hS2.blk.cell 1⟩
  have fr := hS2.blk.frozen
  have hz := hS2.blk.lt
  have hB := hS2.below
  have hB2 := hB
  have hne : w.heap.size ≠ w2.heap.size := by omega
  have f4 : w2.cell? ⟨w1.heap.size, 4, none⟩ = some (.int .i64 2048) := hF2.cell 4
  have hzf := hF2.lt
  have hne2 : w1.heap.size ≠ w2.heap.size := by omega
  go_wp2_with fail
  refine bodyPost_ret (v := .agg #[.int .i64 1, .string (src ++ dst)]) (by simp [results, Try.results26, go_sem, r0, r1, hz]) rfl ⟨rfl, ?_⟩
  (with_reducible (repeat' (first | exact hB | exact hB2 | exact Below.refl _ _ | refine below_drewN ?_ _ | refine Below.drew ?_ | refine Below.alloc ?_ (by first | (simp; done) | (simp; omega) | omega) _ | refine Below.setCell ?_ (by first | (simp; done) | (simp; omega) | omega) _)))
set_option maxRecDepth 100000 in
set_option maxHeartbeats 1600000 in
theorem rof_bare_4i (s : ByteArray) (w : World) (d r : ByteArray) (vl pr : Int) (b : ByteArray) (src dst : ByteArray) (proto hops cls id flags off label : Int) (opt body : ByteArray) (X : Int) (x1 : flags.tmod 2 = X) (y1 : src.size ≤ 16) (y2 : dst.size ≤ 16) (g1 : (proto == 6) = false) (g2 : (proto == 17) = true) (g3 : (off == 0) = true) (g4 : (X == 0) = true) (g5 : (body.size : Int) < 4)
    (A : ∀ W, Calls Try.prog 40 #[.string s] W fun e w' => e = .returned (.tuple #[.agg #[.string d, .string r, .int .i64 vl, .int .i64 pr, .int .i64 2048, .string b], .int .i64 0]) ∧ Below W.heap.size W w') (AI : ∀ W, Calls Try.prog 41 #[.string b] W fun e w' => e = .returned (.tuple #[.agg #[.int .i64 4, .string src, .string dst, .int .i64 proto, .int .i64 hops, .int .i64 cls, .int .i64 id, .int .i64 flags, .int .i64 off, .int .i64 label, .string opt, .string body], .int .i64 0]) ∧ Below W.heap.size W w') : Calls Try.prog 26 #[.string s] w (OfIs w 1 (src ++ dst)) := by
  have HA := Lib.hid A
  have HI := Lib.hid AI
  clear A AI
  have y3 : ¬ 9223372036854775807 < src.size + dst.size := by omega
  go_enter Try.func26, Try.ntmps26
  go_wp2_with fail
  refine (HA.out _).mono ?_
  rintro e w1 ⟨rfl, hq⟩
  have hS := (Held.new w 38 #[.int .i64 0, .string ⟨#[]⟩]).next hq
  clear hq
  go_wp2_with fail
  refine (HI.out _).mono ?_
  rintro e w2 ⟨rfl, hq⟩
  have hz1 := hS.blk.lt
  have hS2 : Held w 38 #[.int .i64 0, .string ⟨#[]⟩] w2 := ⟨(hS.blk.alloc _).same (hq.block _ (by simp; omega)), (hS.below.alloc (by omega) _).trans (hq.mono (by simp; omega))⟩
  have hF2 : Blk w2 w1.heap.size 51 #[.string d, .string r, .int .i64 vl, .int .i64 pr, .int .i64 2048, .string b] := (Blk.new w1 51 _).same (hq.block _ (by simp))
  clear hq hS
  obtain ⟨r0, r1⟩ : w2.cell? ⟨w.heap.size, 0, none⟩ = some (.int .i64 0) ∧ w2.cell? ⟨w.heap.size, 1, none⟩ = some (.string ⟨#[]⟩) := ⟨hS2.blk.cell 0, hS2.blk.cell 1⟩
  have fr := hS2.blk.frozen
  have hz := hS2.blk.lt
  have hB := hS2.below
  have hB2 := hB
  have hne : w.heap.size ≠ w2.heap.size := by omega
  have f4 : w2.cell? ⟨w1.heap.size, 4, none⟩ = some (.int .i64 2048) := hF2.cell 4
  have hzf := hF2.lt
  have hne2 : w1.heap.size ≠ w2.heap.size := by omega
  go_wp2_with fail
  refine bodyPost_ret (v := .agg #[.int .i64 1, .string (src ++ dst)]) (by simp [results, Try.results26, go_sem, r0, r1, hz]) rfl ⟨rfl, ?_⟩
  (with_reducible (repeat' (first | exact hB | exact hB2 | exact Below.refl _ _ | refine below_drewN ?_ _ | refine Below.drew ?_ | refine Below.alloc ?_ (by first | (simp; done) | (simp; omega) | omega) _ | refine Below.setCell ?_ (by first | (simp; done) | (simp; omega) | omega) _)))
set_option maxRecDepth 100000 in
set_option maxHeartbeats 1600000 in
theorem rof_port_4a (s : ByteArray) (w : World) (d r : ByteArray) (vl pr : Int) (b : ByteArray) (src dst : ByteArray) (proto hops cls id flags off label : Int) (opt body : ByteArray) (X : Int) (x1 : flags.tmod 2 = X) (y1 : src.size ≤ 16) (y2 : dst.size ≤ 16) (g1 : (proto == 6) = true) (g2 : (proto == 17) = false) (g3 : (off == 0) = true) (g4 : (X == 0) = true) (g5 : 4 ≤ body.size)
    (A : ∀ W, Calls Try.prog 40 #[.string s] W fun e w' => e = .returned (.tuple #[.agg #[.string d, .string r, .int .i64 vl, .int .i64 pr, .int .i64 2048, .string b], .int .i64 0]) ∧ Below W.heap.size W w') (AI : ∀ W, Calls Try.prog 41 #[.string b] W fun e w' => e = .returned (.tuple #[.agg #[.int .i64 4, .string src, .string dst, .int .i64 proto, .int .i64 hops, .int .i64 cls, .int .i64 id, .int .i64 flags, .int .i64 off, .int .i64 label, .string opt, .string body], .int .i64 0]) ∧ Below W.heap.size W w') : Calls Try.prog 26 #[.string s] w (OfIs w 2 (src ++ dst ++ body.extract 0 4)) := by
  have HA := Lib.hid A
  have HI := Lib.hid AI
  clear A AI
  have y3 : ¬ 9223372036854775807 < src.size + dst.size := by omega
  have y4 : (body.extract 0 4).size = 4 := by rw [ByteArray.size_extract]; omega
  have y5 : ¬ 9223372036854775807 < (src ++ dst).size + (body.extract 0 4).size := by rw [y4, ByteArray.size_append]; omega
  have y6 : (4 : Int) ≤ body.size := by omega
  have y7 : ¬ (body.size : Int) < 4 := by omega
  clear y1 y2
  go_enter Try.func26, Try.ntmps26
  go_wp2_with fail
  refine (HA.out _).mono ?_
  rintro e w1 ⟨rfl, hq⟩
  have hS := (Held.new w 38 #[.int .i64 0, .string ⟨#[]⟩]).next hq
  clear hq
  go_wp2_with fail
  refine (HI.out _).mono ?_
  rintro e w2 ⟨rfl, hq⟩
  have hz1 := hS.blk.lt
  have hS2 : Held w 38 #[.int .i64 0, .string ⟨#[]⟩] w2 := ⟨(hS.blk.alloc _).same (hq.block _ (by simp; omega)), (hS.below.alloc (by omega) _).trans (hq.mono (by simp; omega))⟩
  have hF2 : Blk w2 w1.heap.size 51 #[.string d, .string r, .int .i64 vl, .int .i64 pr, .int .i64 2048, .string b] := (Blk.new w1 51 _).same (hq.block _ (by simp))
  clear hq hS
  obtain ⟨r0, r1⟩ : w2.cell? ⟨w.heap.size, 0, none⟩ = some (.int .i64 0) ∧ w2.cell? ⟨w.heap.size, 1, none⟩ = some (.string ⟨#[]⟩) := ⟨hS2.blk.cell 0, hS2.blk.cell 1⟩
  have fr := hS2.blk.frozen
  have hz := hS2.blk.lt
  have hB := hS2.below
  have hB2 := hB
  have hne : w.heap.size ≠ w2.heap.size := by omega
  have f4 : w2.cell? ⟨w1.heap.size, 4, none⟩ = some (.int .i64 2048) := hF2.cell 4
  have hzf := hF2.lt
  have hne2 : w1.heap.size ≠ w2.heap.size := by omega
  go_wp2_with fail
  have hP : Blk (w2.alloc (.cells #[.int .i64 4, .string src, .string dst, .int .i64 proto, .int .i64 hops, .int .i64 cls, .int .i64 id, .int .i64 flags, .int .i64 off, .int .i64 label, .string opt, .string body] 56)) w2.heap.size 56 #[.int .i64 4, .string src, .string dst, .int .i64 proto, .int .i64 hops, .int .i64 cls, .int .i64 id, .int .i64 flags, .int .i64 off, .int .i64 label, .string opt, .string body] := Blk.new w2 56 _
  have hS3 : Held w 38 #[.int .i64 0, .string ⟨#[]⟩] (w2.alloc (.cells #[.int .i64 4, .string src, .string dst, .int .i64 proto, .int .i64 hops, .int .i64 cls, .int .i64 id, .int .i64 flags, .int .i64 off, .int .i64 label, .string opt, .string body] 56)) := ⟨hS2.blk.alloc _, hS2.below.alloc (by omega) _⟩
  clear r0 r1 fr hB hB2 f4 hS2 hF2
  generalize w2.alloc (.cells #[.int .i64 4, .string src, .string dst, .int .i64 proto, .int .i64 hops, .int .i64 cls, .int .i64 id, .int .i64 flags, .int .i64 off, .int .i64 label, .string opt, .string body] 56) = W0 at *
  obtain ⟨r0, r1⟩ : W0.cell? ⟨w.heap.size, 0, none⟩ = some (.int .i64 0) ∧ W0.cell? ⟨w.heap.size, 1, none⟩ = some (.string ⟨#[]⟩) := ⟨hS3.blk.cell 0, hS3.blk.cell 1⟩
  have fr := hS3.blk.frozen
  have hB := hS3.below
  have hB2 := hB
  have q1 : W0.cell? ⟨w2.heap.size, 1, none⟩ = some (.string src) := hP.cell 1
  have q2 : W0.cell? ⟨w2.heap.size, 2, none⟩ = some (.string dst) := hP.cell 2
  have q3 : W0.cell? ⟨w2.heap.size, 11, none⟩ = some (.string body) := hP.cell 11
  clear hP hS3
  go_region
  go_wp2_with fail
  refine bodyPost_ret (v := .agg #[.int .i64 2, .string (src ++ dst ++ body.extract 0 4)]) (by simp [results, Try.results26, go_sem, r0, r1]) rfl ⟨rfl, ?_⟩
  (with_reducible (repeat' (first | exact hB | exact hB2 | exact Below.refl _ _ | refine below_drewN ?_ _ | refine Below.drew ?_ | refine Below.alloc ?_ (by first | (simp; done) | (simp; omega) | omega) _ | refine Below.setCell ?_ (by first | (simp; done) | (simp; omega) | omega) _)))
set_option maxRecDepth 100000 in
set_option maxHeartbeats 1600000 in
theorem rof_port_4b (s : ByteArray) (w : World) (d r : ByteArray) (vl pr : Int) (b : ByteArray) (src dst : ByteArray) (proto hops cls id flags off label : Int) (opt body : ByteArray) (X : Int) (x1 : flags.tmod 2 = X) (y1 : src.size ≤ 16) (y2 : dst.size ≤ 16) (g1 : (proto == 6) = false) (g2 : (proto == 17) = true) (g3 : (off == 0) = true) (g4 : (X == 0) = true) (g5 : 4 ≤ body.size)
    (A : ∀ W, Calls Try.prog 40 #[.string s] W fun e w' => e = .returned (.tuple #[.agg #[.string d, .string r, .int .i64 vl, .int .i64 pr, .int .i64 2048, .string b], .int .i64 0]) ∧ Below W.heap.size W w') (AI : ∀ W, Calls Try.prog 41 #[.string b] W fun e w' => e = .returned (.tuple #[.agg #[.int .i64 4, .string src, .string dst, .int .i64 proto, .int .i64 hops, .int .i64 cls, .int .i64 id, .int .i64 flags, .int .i64 off, .int .i64 label, .string opt, .string body], .int .i64 0]) ∧ Below W.heap.size W w') : Calls Try.prog 26 #[.string s] w (OfIs w 3 (src ++ dst ++ body.extract 0 4)) := by
  have HA := Lib.hid A
  have HI := Lib.hid AI
  clear A AI
  have y3 : ¬ 9223372036854775807 < src.size + dst.size := by omega
  have y4 : (body.extract 0 4).size = 4 := by rw [ByteArray.size_extract]; omega
  have y5 : ¬ 9223372036854775807 < (src ++ dst).size + (body.extract 0 4).size := by rw [y4, ByteArray.size_append]; omega
  have y6 : (4 : Int) ≤ body.size := by omega
  have y7 : ¬ (body.size : Int) < 4 := by omega
  clear y1 y2
  go_enter Try.func26, Try.ntmps26
  go_wp2_with fail
  refine (HA.out _).mono ?_
  rintro e w1 ⟨rfl, hq⟩
  have hS := (Held.new w 38 #[.int .i64 0, .string ⟨#[]⟩]).next hq
  clear hq
  go_wp2_with fail
  refine (HI.out _).mono ?_
  rintro e w2 ⟨rfl, hq⟩
  have hz1 := hS.blk.lt
  have hS2 : Held w 38 #[.int .i64 0, .string ⟨#[]⟩] w2 := ⟨(hS.blk.alloc _).same (hq.block _ (by simp; omega)), (hS.below.alloc (by omega) _).trans (hq.mono (by simp; omega))⟩
  have hF2 : Blk w2 w1.heap.size 51 #[.string d, .string r, .int .i64 vl, .int .i64 pr, .int .i64 2048, .string b] := (Blk.new w1 51 _).same (hq.block _ (by simp))
  clear hq hS
  obtain ⟨r0, r1⟩ : w2.cell? ⟨w.heap.size, 0, none⟩ = some (.int .i64 0) ∧ w2.cell? ⟨w.heap.size, 1, none⟩ = some (.string ⟨#[]⟩) := ⟨hS2.blk.cell 0, hS2.blk.cell 1⟩
  have fr := hS2.blk.frozen
  have hz := hS2.blk.lt
  have hB := hS2.below
  have hB2 := hB
  have hne : w.heap.size ≠ w2.heap.size := by omega
  have f4 : w2.cell? ⟨w1.heap.size, 4, none⟩ = some (.int .i64 2048) := hF2.cell 4
  have hzf := hF2.lt
  have hne2 : w1.heap.size ≠ w2.heap.size := by omega
  go_wp2_with fail
  have hP : Blk (w2.alloc (.cells #[.int .i64 4, .string src, .string dst, .int .i64 proto, .int .i64 hops, .int .i64 cls, .int .i64 id, .int .i64 flags, .int .i64 off, .int .i64 label, .string opt, .string body] 56)) w2.heap.size 56 #[.int .i64 4, .string src, .string dst, .int .i64 proto, .int .i64 hops, .int .i64 cls, .int .i64 id, .int .i64 flags, .int .i64 off, .int .i64 label, .string opt, .string body] := Blk.new w2 56 _
  have hS3 : Held w 38 #[.int .i64 0, .string ⟨#[]⟩] (w2.alloc (.cells #[.int .i64 4, .string src, .string dst, .int .i64 proto, .int .i64 hops, .int .i64 cls, .int .i64 id, .int .i64 flags, .int .i64 off, .int .i64 label, .string opt, .string body] 56)) := ⟨hS2.blk.alloc _, hS2.below.alloc (by omega) _⟩
  clear r0 r1 fr hB hB2 f4 hS2 hF2
  generalize w2.alloc (.cells #[.int .i64 4, .string src, .string dst, .int .i64 proto, .int .i64 hops, .int .i64 cls, .int .i64 id, .int .i64 flags, .int .i64 off, .int .i64 label, .string opt, .string body] 56) = W0 at *
  obtain ⟨r0, r1⟩ : W0.cell? ⟨w.heap.size, 0, none⟩ = some (.int .i64 0) ∧ W0.cell? ⟨w.heap.size, 1, none⟩ = some (.string ⟨#[]⟩) := ⟨hS3.blk.cell 0, hS3.blk.cell 1⟩
  have fr := hS3.blk.frozen
  have hB := hS3.below
  have hB2 := hB
  have q1 : W0.cell? ⟨w2.heap.size, 1, none⟩ = some (.string src) := hP.cell 1
  have q2 : W0.cell? ⟨w2.heap.size, 2, none⟩ = some (.string dst) := hP.cell 2
  have q3 : W0.cell? ⟨w2.heap.size, 11, none⟩ = some (.string body) := hP.cell 11
  clear hP hS3
  go_region
  go_wp2_with fail
  refine bodyPost_ret (v := .agg #[.int .i64 3, .string (src ++ dst ++ body.extract 0 4)]) (by simp [results, Try.results26, go_sem, r0, r1]) rfl ⟨rfl, ?_⟩
  (with_reducible (repeat' (first | exact hB | exact hB2 | exact Below.refl _ _ | refine below_drewN ?_ _ | refine Below.drew ?_ | refine Below.alloc ?_ (by first | (simp; done) | (simp; omega) | omega) _ | refine Below.setCell ?_ (by first | (simp; done) | (simp; omega) | omega) _)))
end Go.Proofs.Ytpjndjmneficbaa

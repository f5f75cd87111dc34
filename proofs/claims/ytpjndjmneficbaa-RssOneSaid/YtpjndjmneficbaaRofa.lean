/-
  What the document's Of of a flow answers, for every string.
-/
import Derived.Test.YtpjndjmneficbaaRpp
namespace Go.Proofs.Ytpjndjmneficbaa
open Go.RowKit

set_option maxRecDepth 100000 in
set_option maxHeartbeats 1600000 in
theorem rof_bad (s : ByteArray) (w : World) (E : Int) (d r : ByteArray) (vl pr ty : Int) (b : ByteArray) (hE : (E != 0) = true)
    (A : ∀ W, Calls Try.prog 40 #[.string s] W fun e w' => e = .returned (.tuple #[.agg #[.string d, .string r, .int .i64 vl, .int .i64 pr, .int .i64 ty, .string b], .int .i64 E]) ∧ Below W.heap.size W w') : Calls Try.prog 26 #[.string s] w (OfIs w 0 ⟨#[]⟩) := by
  have HA := Lib.hid A
  clear A
  go_enter Try.func26, Try.ntmps26
  go_wp2_with fail
  refine (HA.out _).mono ?_
  rintro e w1 ⟨rfl, hq⟩
  have hS := (Held.new w 38 #[.int .i64 0, .string ⟨#[]⟩]).next hq
  clear hq
  obtain ⟨r0, r1⟩ : w1.cell? ⟨w.heap.size, 0, none⟩ = some (.int .i64 0) ∧ w1.cell? ⟨w.heap.size, 1, none⟩ = some (.string ⟨#[]⟩) := ⟨hS.blk.cell 0, hS.blk.cell 1⟩
  have fr := hS.blk.frozen
  have hz := hS.blk.lt
  have hB := hS.below
  have hB2 := hB
  have hne : w.heap.size ≠ w1.heap.size := by omega
  clear hS
  go_wp2_with fail
  refine bodyPost_ret (v := .agg #[.int .i64 0, .string ⟨#[]⟩]) (by simp [results, Try.results26, go_sem, r0, r1, hz]) rfl ⟨rfl, ?_⟩
  (with_reducible (repeat' (first | exact hB | exact hB2 | exact Below.refl _ _ | refine below_drewN ?_ _ | refine Below.drew ?_ | refine Below.alloc ?_ (by first | (simp; done) | (simp; omega) | omega) _ | refine Below.setCell ?_ (by first | (simp; done) | (simp; omega) | omega) _)))
set_option maxRecDepth 100000 in
set_option maxHeartbeats 1600000 in
theorem rof_type (s : ByteArray) (w : World) (d r : ByteArray) (vl pr ty : Int) (b : ByteArray) (h1 : (ty != 2048) = true) (h2 : (ty != 34525) = true)
    (A : ∀ W, Calls Try.prog 40 #[.string s] W fun e w' => e = .returned (.tuple #[.agg #[.string d, .string r, .int .i64 vl, .int .i64 pr, .int .i64 ty, .string b], .int .i64 0]) ∧ Below W.heap.size W w') : Calls Try.prog 26 #[.string s] w (OfIs w 0 ⟨#[]⟩) := by
  have HA := Lib.hid A
  clear A
  go_enter Try.func26, Try.ntmps26
  go_wp2_with fail
  refine (HA.out _).mono ?_
  rintro e w1 ⟨rfl, hq⟩
  have hS := (Held.new w 38 #[.int .i64 0, .string ⟨#[]⟩]).next hq
  clear hq
  obtain ⟨r0, r1⟩ : w1.cell? ⟨w.heap.size, 0, none⟩ = some (.int .i64 0) ∧ w1.cell? ⟨w.heap.size, 1, none⟩ = some (.string ⟨#[]⟩) := ⟨hS.blk.cell 0, hS.blk.cell 1⟩
  have fr := hS.blk.frozen
  have hz := hS.blk.lt
  have hB := hS.below
  have hB2 := hB
  have hne : w.heap.size ≠ w1.heap.size := by omega
  clear hS
  go_wp2_with fail
  refine bodyPost_ret (v := .agg #[.int .i64 0, .string ⟨#[]⟩]) (by simp [results, Try.results26, go_sem, r0, r1, hz]) rfl ⟨rfl, ?_⟩
  (with_reducible (repeat' (first | exact hB | exact hB2 | exact Below.refl _ _ | refine below_drewN ?_ _ | refine Below.drew ?_ | refine Below.alloc ?_ (by first | (simp; done) | (simp; omega) | omega) _ | refine Below.setCell ?_ (by first | (simp; done) | (simp; omega) | omega) _)))
set_option maxRecDepth 100000 in
set_option maxHeartbeats 1600000 in
theorem rof_noip_2048 (s : ByteArray) (w : World) (E : Int) (d r : ByteArray) (vl pr : Int) (b : ByteArray) (v : Int) (src dst : ByteArray) (proto hops cls id flags off label : Int) (opt body : ByteArray) (hE : (E != 0) = true)
    (A : ∀ W, Calls Try.prog 40 #[.string s] W fun e w' => e = .returned (.tuple #[.agg #[.string d, .string r, .int .i64 vl, .int .i64 pr, .int .i64 2048, .string b], .int .i64 0]) ∧ Below W.heap.size W w') (AI : ∀ W, Calls Try.prog 41 #[.string b] W fun e w' => e = .returned (.tuple #[.agg #[.int .i64 v, .string src, .string dst, .int .i64 proto, .int .i64 hops, .int .i64 cls, .int .i64 id, .int .i64 flags, .int .i64 off, .int .i64 label, .string opt, .string body], .int .i64 E]) ∧ Below W.heap.size W w') : Calls Try.prog 26 #[.string s] w (OfIs w 0 ⟨#[]⟩) := by
  have HA := Lib.hid A
  have HI := Lib.hid AI
  clear A AI
  go_enter Try.func26, Try.ntmps26
  go_wp2_with fail
  refine (HA.out _).mono ?_
  rintro e w1 ⟨rfl, hq⟩
  have hS := (Held.new w 38 #[.int .i64 0, .string ⟨#[]⟩]).next hq
  clear hq
  go_wp2_with fail
  refine (HI.out _).mono ?_
  rintro e w2 ⟨rfl, hq⟩
  have hz1 := hS.blk.lt
  have hS2 : Held w 38 #[.int .i64 0, .string ⟨#[]⟩] w2 := ⟨(hS.blk.alloc _).same (hq.block _ (by simp; omega)), (hS.below.alloc (by omega) _).trans (hq.mono (by simp; omega))⟩
  have hF2 : Blk w2 w1.heap.size 51 #[.string d, .string r, .int .i64 vl, .int .i64 pr, .int .i64 2048, .string b] := (Blk.new w1 51 _).same (hq.block _ (by simp))
  clear hq hS
  obtain ⟨r0, r1⟩ : w2.cell? ⟨w.heap.size, 0, none⟩ = some (.int .i64 0) ∧ w2.cell? ⟨w.heap.size, 1, none⟩ = some (.string ⟨#[]⟩) := ⟨hS2.blk.cell 0, hS2.blk.cell 1⟩
  have fr := hS2.blk.frozen
  have hz := hS2.blk.lt
  have hB := hS2.below
  have hB2 := hB
  have hne : w.heap.size ≠ w2.heap.size := by omega
  have f4 : w2.cell? ⟨w1.heap.size, 4, none⟩ = some (.int .i64 2048) := hF2.cell 4
  have hzf := hF2.lt
  have hne2 : w1.heap.size ≠ w2.heap.size := by omega
  go_wp2_with fail
  refine bodyPost_ret (v := .agg #[.int .i64 0, .string ⟨#[]⟩]) (by simp [results, Try.results26, go_sem, r0, r1, hz]) rfl ⟨rfl, ?_⟩
  (with_reducible (repeat' (first | exact hB | exact hB2 | exact Below.refl _ _ | refine below_drewN ?_ _ | refine Below.drew ?_ | refine Below.alloc ?_ (by first | (simp; done) | (simp; omega) | omega) _ | refine Below.setCell ?_ (by first | (simp; done) | (simp; omega) | omega) _)))
set_option maxRecDepth 100000 in
set_option maxHeartbeats 1600000 in
theorem rof_noip_34525 (s : ByteArray) (w : World) (E : Int) (d r : ByteArray) (vl pr : Int) (b : ByteArray) (v : Int) (src dst : ByteArray) (proto hops cls id flags off label : Int) (opt body : ByteArray) (hE : (E != 0) = true)
    (A : ∀ W, Calls Try.prog 40 #[.string s] W fun e w' => e = .returned (.tuple #[.agg #[.string d, .string r, .int .i64 vl, .int .i64 pr, .int .i64 34525, .string b], .int .i64 0]) ∧ Below W.heap.size W w') (AI : ∀ W, Calls Try.prog 41 #[.string b] W fun e w' => e = .returned (.tuple #[.agg #[.int .i64 v, .string src, .string dst, .int .i64 proto, .int .i64 hops, .int .i64 cls, .int .i64 id, .int .i64 flags, .int .i64 off, .int .i64 label, .string opt, .string body], .int .i64 E]) ∧ Below W.heap.size W w') : Calls Try.prog 26 #[.string s] w (OfIs w 0 ⟨#[]⟩) := by
  have HA := Lib.hid A
  have HI := Lib.hid AI
  clear A AI
  go_enter Try.func26, Try.ntmps26
  go_wp2_with fail
  refine (HA.out _).mono ?_
  rintro e w1 ⟨rfl, hq⟩
  have hS := (Held.new w 38 #[.int .i64 0, .string ⟨#[]⟩]).next hq
  clear hq
  go_wp2_with fail
  refine (HI.out _).mono ?_
  rintro e w2 ⟨rfl, hq⟩
  have hz1 := hS.blk.lt
  have hS2 : Held w 38 #[.int .i64 0, .string ⟨#[]⟩] w2 := ⟨(hS.blk.alloc _).same (hq.block _ (by simp; omega)), (hS.below.alloc (by omega) _).trans (hq.mono (by simp; omega))⟩
  have hF2 : Blk w2 w1.heap.size 51 #[.string d, .string r, .int .i64 vl, .int .i64 pr, .int .i64 34525, .string b] := (Blk.new w1 51 _).same (hq.block _ (by simp))
  clear hq hS
  obtain ⟨r0, r1⟩ : w2.cell? ⟨w.heap.size, 0, none⟩ = some (.int .i64 0) ∧ w2.cell? ⟨w.heap.size, 1, none⟩ = some (.string ⟨#[]⟩) := ⟨hS2.blk.cell 0, hS2.blk.cell 1⟩
  have fr := hS2.blk.frozen
  have hz := hS2.blk.lt
  have hB := hS2.below
  have hB2 := hB
  have hne : w.heap.size ≠ w2.heap.size := by omega
  have f4 : w2.cell? ⟨w1.heap.size, 4, none⟩ = some (.int .i64 34525) := hF2.cell 4
  have hzf := hF2.lt
  have hne2 : w1.heap.size ≠ w2.heap.size := by omega
  go_wp2_with fail
  refine bodyPost_ret (v := .agg #[.int .i64 0, .string ⟨#[]⟩]) (by simp [results, Try.results26, go_sem, r0, r1, hz]) rfl ⟨rfl, ?_⟩
  (with_reducible (repeat' (first | exact hB | exact hB2 | exact Below.refl _ _ | refine below_drewN ?_ _ | refine Below.drew ?_ | refine Below.alloc ?_ (by first | (simp; done) | (simp; omega) | omega) _ | refine Below.setCell ?_ (by first | (simp; done) | (simp; omega) | omega) _)))
set_option maxRecDepth 100000 in
set_option maxHeartbeats 1600000 in
theorem rof_ver_2048 (s : ByteArray) (w : World) (d r : ByteArray) (vl pr : Int) (b : ByteArray) (src dst : ByteArray) (proto hops cls id flags off label : Int) (opt body : ByteArray)
    (A : ∀ W, Calls Try.prog 40 #[.string s] W fun e w' => e = .returned (.tuple #[.agg #[.string d, .string r, .int .i64 vl, .int .i64 pr, .int .i64 2048, .string b], .int .i64 0]) ∧ Below W.heap.size W w') (AI : ∀ W, Calls Try.prog 41 #[.string b] W fun e w' => e = .returned (.tuple #[.agg #[.int .i64 6, .string src, .string dst, .int .i64 proto, .int .i64 hops, .int .i64 cls, .int .i64 id, .int .i64 flags, .int .i64 off, .int .i64 label, .string opt, .string body], .int .i64 0]) ∧ Below W.heap.size W w') : Calls Try.prog 26 #[.string s] w (OfIs w 0 ⟨#[]⟩) := by
  have HA := Lib.hid A
  have HI := Lib.hid AI
  clear A AI
  go_enter Try.func26, Try.ntmps26
  go_wp2_with fail
  refine (HA.out _).mono ?_
  rintro e w1 ⟨rfl, hq⟩
  have hS := (Held.new w 38 #[.int .i64 0, .string ⟨#[]⟩]).next hq
  clear hq
  go_wp2_with fail
  refine (HI.out _).mono ?_
  rintro e w2 ⟨rfl, hq⟩
  have hz1 := hS.blk.lt
  have hS2 : Held w 38 #[.int .i64 0, .string ⟨#[]⟩] w2 := ⟨(hS.blk.alloc _).same (hq.block _ (by simp; omega)), (hS.below.alloc (by omega) _).trans (hq.mono (by simp; omega))⟩
  have hF2 : Blk w2 w1.heap.size 51 #[.string d, .string r, .int .i64 vl, .int .i64 pr, .int .i64 2048, .string b] := (Blk.new w1 51 _).same (hq.block _ (by simp))
  clear hq hS
  obtain ⟨r0, r1⟩ : w2.cell? ⟨w.heap.size, 0, none⟩ = some (.int .i64 0) ∧ w2.cell? ⟨w.heap.size, 1, none⟩ = some (.string ⟨#[]⟩) := ⟨hS2.blk.cell 0, hS2.blk.cell 1⟩
  have fr := hS2.blk.frozen
  have hz := hS2.blk.lt
  have hB := hS2.below
  have hB2 := hB
  have hne : w.heap.size ≠ w2.heap.size := by omega
  have f4 : w2.cell? ⟨w1.heap.size, 4, none⟩ = some (.int .i64 2048) := hF2.cell 4
  have hzf := hF2.lt
  have hne2 : w1.heap.size ≠ w2.heap.size := by omega
  go_wp2_with fail
  refine bodyPost_ret (v := .agg #[.int .i64 0, .string ⟨#[]⟩]) (by simp [results, Try.results26, go_sem, r0, r1, hz]) rfl ⟨rfl, ?_⟩
  (with_reducible (repeat' (first | exact hB | exact hB2 | exact Below.refl _ _ | refine below_drewN ?_ _ | refine Below.drew ?_ | refine Below.alloc ?_ (by first | (simp; done) | (simp; omega) | omega) _ | refine Below.setCell ?_ (by first | (simp; done) | (simp; omega) | omega) _)))
set_option maxRecDepth 100000 in
set_option maxHeartbeats 1600000 in
theorem rof_ver_34525 (s : ByteArray) (w : World) (d r : ByteArray) (vl pr : Int) (b : ByteArray) (src dst : ByteArray) (proto hops cls id flags off label : Int) (opt body : ByteArray)
    (A : ∀ W, Calls Try.prog 40 #[.string s] W fun e w' => e = .returned (.tuple #[.agg #[.string d, .string r, .int .i64 vl, .int .i64 pr, .int .i64 34525, .string b], .int .i64 0]) ∧ Below W.heap.size W w') (AI : ∀ W, Calls Try.prog 41 #[.string b] W fun e w' => e = .returned (.tuple #[.agg #[.int .i64 4, .string src, .string dst, .int .i64 proto, .int .i64 hops, .int .i64 cls, .int .i64 id, .int .i64 flags, .int .i64 off, .int .i64 label, .string opt, .string body], .int .i64 0]) ∧ Below W.heap.size W w') : Calls Try.prog 26 #[.string s] w (OfIs w 0 ⟨#[]⟩) := by
  have HA := Lib.hid A
  have HI := Lib.hid AI
  clear A AI
  go_enter Try.func26, Try.ntmps26
  go_wp2_with fail
  refine (HA.out _).mono ?_
  rintro e w1 ⟨rfl, hq⟩
  have hS := (Held.new w 38 #[.int .i64 0, .string ⟨#[]⟩]).next hq
  clear hq
  go_wp2_with fail
  refine (HI.out _).mono ?_
  rintro e w2 ⟨rfl, hq⟩
  have hz1 := hS.blk.lt
  have hS2 : Held w 38 #[.int .i64 0, .string ⟨#[]⟩] w2 := ⟨(hS.blk.alloc _).same (hq.block _ (by simp; omega)), (hS.below.alloc (by omega) _).trans (hq.mono (by simp; omega))⟩
  have hF2 : Blk w2 w1.heap.size 51 #[.string d, .string r, .int .i64 vl, .int .i64 pr, .int .i64 34525, .string b] := (Blk.new w1 51 _).same (hq.block _ (by simp))
  clear hq hS
  obtain ⟨r0, r1⟩ : w2.cell? ⟨w.heap.size, 0, none⟩ = some (.int .i64 0) ∧ w2.cell? ⟨w.heap.size, 1, none⟩ = some (.string ⟨#[]⟩) := ⟨hS2.blk.cell 0, hS2.blk.cell 1⟩
  have fr := hS2.blk.frozen
  have hz := hS2.blk.lt
  have hB := hS2.below
  have hB2 := hB
  have hne : w.heap.size ≠ w2.heap.size := by omega
  have f4 : w2.cell? ⟨w1.heap.size, 4, none⟩ = some (.int .i64 34525) := hF2.cell 4
  have hzf := hF2.lt
  have hne2 : w1.heap.size ≠ w2.heap.size := by omega
  go_wp2_with fail
  refine bodyPost_ret (v := .agg #[.int .i64 0, .string ⟨#[]⟩]) (by simp [results, Try.results26, go_sem, r0, r1, hz]) rfl ⟨rfl, ?_⟩
  (with_reducible (repeat' (first | exact hB | exact hB2 | exact Below.refl _ _ | refine below_drewN ?_ _ | refine Below.drew ?_ | refine Below.alloc ?_ (by first | (simp; done) | (simp; omega) | omega) _ | refine Below.setCell ?_ (by first | (simp; done) | (simp; omega) | omega) _)))
end Go.Proofs.Ytpjndjmneficbaa

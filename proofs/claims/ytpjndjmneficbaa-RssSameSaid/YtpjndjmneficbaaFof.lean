/-
  What flow.Of answers, for every string.
-/
import Derived.Test.YtpjndjmneficbaaFlo
import Derived.Test.YtpjndjmneficbaaTag
namespace Go.Proofs.Ytpjndjmneficbaa
open Go.RowKit

def OfIs (w : World) (n : Int) (x : ByteArray) (e : Ending) (w' : World) : Prop := e = .returned (.agg #[.int .i64 n, .string x]) ∧ Below w.heap.size w w'
set_option maxRecDepth 100000 in
set_option maxHeartbeats 1600000 in
theorem of_bad (s : ByteArray) (w : World) (E : Int) (d r : ByteArray) (vl pr ty : Int) (b : ByteArray) (hE : (E != 0) = true)
    (A : ∀ W, Calls Try.prog 30 #[.string s] W fun e w' => e = .returned (.tuple #[.agg #[.string d, .string r, .int .i64 vl, .int .i64 pr, .int .i64 ty, .string b], .int .i64 E]) ∧ Below W.heap.size W w') : Calls Try.prog 20 #[.string s] w (OfIs w 0 ⟨#[]⟩) := by
  have HA := Lib.hid A
  clear A
  go_enter Try.func20, Try.ntmps20
  go_wp2_with fail
  refine (HA.out _).mono ?_
  rintro e w1 ⟨rfl, hq⟩
  have hS := (Held.new w 38 #[.int .i64 0, .string ⟨#[]⟩]).next hq
  obtain ⟨r0, r1⟩ : w1.cell? ⟨w.heap.size, 0, none⟩ = some (.int .i64 0) ∧ w1.cell? ⟨w.heap.size, 1, none⟩ = some (.string ⟨#[]⟩) := ⟨hS.blk.cell 0, hS.blk.cell 1⟩
  have fr := hS.blk.frozen
  have hz := hS.blk.lt
  have hB := hS.below
  have hB2 := hB
  have hne : w.heap.size ≠ w1.heap.size := by omega
  clear hS hq
  go_wp2_with fail
  refine bodyPost_ret (v := .agg #[.int .i64 0, .string ⟨#[]⟩]) (by simp [results, Try.results20, go_sem, r0, r1, hz]) rfl ⟨rfl, ?_⟩
  (with_reducible (repeat' (first | exact hB | exact hB2 | exact Below.refl _ _ | refine below_drewN ?_ _ | refine Below.drew ?_ | refine Below.alloc ?_ (by first | (simp; done) | (simp; omega) | omega) _ | refine Below.setCell ?_ (by first | (simp; done) | (simp; omega) | omega) _)))
set_option maxRecDepth 100000 in
set_option maxHeartbeats 1600000 in
theorem of_noip (s : ByteArray) (w : World) (E : Int) (d r : ByteArray) (vl pr ty : Int) (b : ByteArray) (v : Int) (src dst : ByteArray) (proto hops cls id flags off label : Int) (opt body : ByteArray) (hE : (E != 0) = true)
    (A : ∀ W, Calls Try.prog 30 #[.string s] W fun e w' => e = .returned (.tuple #[.agg #[.string d, .string r, .int .i64 vl, .int .i64 pr, .int .i64 ty, .string b], .int .i64 0]) ∧ Below W.heap.size W w')
    (AI : ∀ W, Calls Try.prog 32 #[.string b] W fun e w' => e = .returned (.tuple #[.agg #[.int .i64 v, .string src, .string dst, .int .i64 proto, .int .i64 hops, .int .i64 cls, .int .i64 id, .int .i64 flags, .int .i64 off, .int .i64 label, .string opt, .string body], .int .i64 E]) ∧ Below W.heap.size W w') : Calls Try.prog 20 #[.string s] w (OfIs w 0 ⟨#[]⟩) := by
  have HA := Lib.hid A
  have HI := Lib.hid AI
  clear A AI
  go_enter Try.func20, Try.ntmps20
  go_wp2_with fail
  refine (HA.out _).mono ?_
  rintro e w1 ⟨rfl, hq⟩
  have hS := (Held.new w 38 #[.int .i64 0, .string ⟨#[]⟩]).next hq
  clear hq
  go_wp2_with fail
  refine (HI.out _).mono ?_
  rintro e w2 ⟨rfl, hq⟩
  have hz1 := hS.blk.lt
  have hS2 : Held w 38 #[.int .i64 0, .string ⟨#[]⟩] w2 := ⟨(hS.blk.alloc _).same (hq.block _ (by simp; omega)), (hS.below.alloc (by omega) _).trans (hq.mono (by simp; omega))⟩
  have hF2 : Blk w2 w1.heap.size 51 #[.string d, .string r, .int .i64 vl, .int .i64 pr, .int .i64 ty, .string b] := (Blk.new w1 51 _).same (hq.block _ (by simp))
  clear hq hS
  obtain ⟨r0, r1⟩ : w2.cell? ⟨w.heap.size, 0, none⟩ = some (.int .i64 0) ∧ w2.cell? ⟨w.heap.size, 1, none⟩ = some (.string ⟨#[]⟩) := ⟨hS2.blk.cell 0, hS2.blk.cell 1⟩
  have fr := hS2.blk.frozen
  have hz := hS2.blk.lt
  have hB := hS2.below
  have hB2 := hB
  have hne : w.heap.size ≠ w2.heap.size := by omega
  have f4 : w2.cell? ⟨w1.heap.size, 4, none⟩ = some (.int .i64 ty) := hF2.cell 4
  have hzf := hF2.lt
  have hne2 : w1.heap.size ≠ w2.heap.size := by omega
  go_wp2_with fail
  go_quiet ((go_at_call 33; exact quiet_left (ver_any _ _)))
  go_wp2_with fail
  refine bodyPost_ret (v := .agg #[.int .i64 0, .string ⟨#[]⟩]) (by simp [results, Try.results20, go_sem, r0, r1, hz]) rfl ⟨rfl, ?_⟩
  (with_reducible (repeat' (first | exact hB | exact hB2 | exact Below.refl _ _ | refine below_drewN ?_ _ | refine Below.drew ?_ | refine Below.alloc ?_ (by first | (simp; done) | (simp; omega) | omega) _ | refine Below.setCell ?_ (by first | (simp; done) | (simp; omega) | omega) _)))
set_option maxRecDepth 100000 in
set_option maxHeartbeats 1600000 in
theorem of_ver (s : ByteArray) (w : World) (d r : ByteArray) (vl pr ty : Int) (b : ByteArray) (v : Int) (src dst : ByteArray) (proto hops cls id flags off label : Int) (opt body : ByteArray) (hV : (v != verV ty) = true)
    (A : ∀ W, Calls Try.prog 30 #[.string s] W fun e w' => e = .returned (.tuple #[.agg #[.string d, .string r, .int .i64 vl, .int .i64 pr, .int .i64 ty, .string b], .int .i64 0]) ∧ Below W.heap.size W w')
    (AI : ∀ W, Calls Try.prog 32 #[.string b] W fun e w' => e = .returned (.tuple #[.agg #[.int .i64 v, .string src, .string dst, .int .i64 proto, .int .i64 hops, .int .i64 cls, .int .i64 id, .int .i64 flags, .int .i64 off, .int .i64 label, .string opt, .string body], .int .i64 0]) ∧ Below W.heap.size W w') : Calls Try.prog 20 #[.string s] w (OfIs w 0 ⟨#[]⟩) := by
  have HA := Lib.hid A
  have HI := Lib.hid AI
  clear A AI
  go_enter Try.func20, Try.ntmps20
  go_wp2_with fail
  refine (HA.out _).mono ?_
  rintro e w1 ⟨rfl, hq⟩
  have hS := (Held.new w 38 #[.int .i64 0, .string ⟨#[]⟩]).next hq
  clear hq
  go_wp2_with fail
  refine (HI.out _).mono ?_
  rintro e w2 ⟨rfl, hq⟩
  have hz1 := hS.blk.lt
  have hS2 : Held w 38 #[.int .i64 0, .string ⟨#[]⟩] w2 := ⟨(hS.blk.alloc _).same (hq.block _ (by simp; omega)), (hS.below.alloc (by omega) _).trans (hq.mono (by simp; omega))⟩
  have hF2 : Blk w2 w1.heap.size 51 #[.string d, .string r, .int .i64 vl, .int .i64 pr, .int .i64 ty, .string b] := (Blk.new w1 51 _).same (hq.block _ (by simp))
  clear hq hS
  obtain ⟨r0, r1⟩ : w2.cell? ⟨w.heap.size, 0, none⟩ = some (.int .i64 0) ∧ w2.cell? ⟨w.heap.size, 1, none⟩ = some (.string ⟨#[]⟩) := ⟨hS2.blk.cell 0, hS2.blk.cell 1⟩
  have fr := hS2.blk.frozen
  have hz := hS2.blk.lt
  have hB := hS2.below
  have hB2 := hB
  have hne : w.heap.size ≠ w2.heap.size := by omega
  have f4 : w2.cell? ⟨w1.heap.size, 4, none⟩ = some (.int .i64 ty) := hF2.cell 4
  have hzf := hF2.lt
  have hne2 : w1.heap.size ≠ w2.heap.size := by omega
  go_wp2_with fail
  go_quiet ((go_at_call 33; exact quiet_left (ver_any _ _)))
  go_wp2_with fail
  refine bodyPost_ret (v := .agg #[.int .i64 0, .string ⟨#[]⟩]) (by simp [results, Try.results20, go_sem, r0, r1, hz]) rfl ⟨rfl, ?_⟩
  (with_reducible (repeat' (first | exact hB | exact hB2 | exact Below.refl _ _ | refine below_drewN ?_ _ | refine Below.drew ?_ | refine Below.alloc ?_ (by first | (simp; done) | (simp; omega) | omega) _ | refine Below.setCell ?_ (by first | (simp; done) | (simp; omega) | omega) _)))
set_option maxRecDepth 100000 in
set_option maxHeartbeats 1600000 in
theorem of_good (s : ByteArray) (w : World) (d r : ByteArray) (vl pr ty : Int) (b : ByteArray) (v : Int) (src dst : ByteArray) (proto hops cls id flags off label : Int) (opt body : ByteArray) (K : Int) (X : ByteArray) (hV : (v != verV ty) = false)
    (A : ∀ W, Calls Try.prog 30 #[.string s] W fun e w' => e = .returned (.tuple #[.agg #[.string d, .string r, .int .i64 vl, .int .i64 pr, .int .i64 ty, .string b], .int .i64 0]) ∧ Below W.heap.size W w')
    (AI : ∀ W, Calls Try.prog 32 #[.string b] W fun e w' => e = .returned (.tuple #[.agg #[.int .i64 v, .string src, .string dst, .int .i64 proto, .int .i64 hops, .int .i64 cls, .int .i64 id, .int .i64 flags, .int .i64 off, .int .i64 label, .string opt, .string body], .int .i64 0]) ∧ Below W.heap.size W w')
    (AK : ∀ W, Calls Try.prog 34 #[.agg #[.int .i64 v, .string src, .string dst, .int .i64 proto, .int .i64 hops, .int .i64 cls, .int .i64 id, .int .i64 flags, .int .i64 off, .int .i64 label, .string opt, .string body]] W fun e w' => e = .returned (.int .i64 K) ∧ Below W.heap.size W w')
    (AX : ∀ W, Calls Try.prog 35 #[.int .i64 K, .agg #[.int .i64 v, .string src, .string dst, .int .i64 proto, .int .i64 hops, .int .i64 cls, .int .i64 id, .int .i64 flags, .int .i64 off, .int .i64 label, .string opt, .string body]] W fun e w' => e = .returned (.string X) ∧ Below W.heap.size W w') : Calls Try.prog 20 #[.string s] w (OfIs w K X) := by
  have HK := Lib.hid AK
  have HX := Lib.hid AX
  clear AK AX
  have HA := Lib.hid A
  have HI := Lib.hid AI
  clear A AI
  go_enter Try.func20, Try.ntmps20
  go_wp2_with fail
  refine (HA.out _).mono ?_
  rintro e w1 ⟨rfl, hq⟩
  have hS := (Held.new w 38 #[.int .i64 0, .string ⟨#[]⟩]).next hq
  clear hq
  go_wp2_with fail
  refine (HI.out _).mono ?_
  rintro e w2 ⟨rfl, hq⟩
  have hz1 := hS.blk.lt
  have hS2 : Held w 38 #[.int .i64 0, .string ⟨#[]⟩] w2 := ⟨(hS.blk.alloc _).same (hq.block _ (by simp; omega)), (hS.below.alloc (by omega) _).trans (hq.mono (by simp; omega))⟩
  have hF2 : Blk w2 w1.heap.size 51 #[.string d, .string r, .int .i64 vl, .int .i64 pr, .int .i64 ty, .string b] := (Blk.new w1 51 _).same (hq.block _ (by simp))
  clear hq hS
  obtain ⟨r0, r1⟩ : w2.cell? ⟨w.heap.size, 0, none⟩ = some (.int .i64 0) ∧ w2.cell? ⟨w.heap.size, 1, none⟩ = some (.string ⟨#[]⟩) := ⟨hS2.blk.cell 0, hS2.blk.cell 1⟩
  have fr := hS2.blk.frozen
  have hz := hS2.blk.lt
  have hB := hS2.below
  have hB2 := hB
  have hne : w.heap.size ≠ w2.heap.size := by omega
  have f4 : w2.cell? ⟨w1.heap.size, 4, none⟩ = some (.int .i64 ty) := hF2.cell 4
  have hzf := hF2.lt
  have hne2 : w1.heap.size ≠ w2.heap.size := by omega
  go_wp2_with fail
  go_quiet ((go_at_call 33; exact quiet_left (ver_any _ _)))
  go_wp2_with fail
  refine (HK.out _).mono ?_
  rintro e w3 ⟨rfl, hq⟩
  have hP : Blk w3 w2.heap.size 56 #[.int .i64 v, .string src, .string dst, .int .i64 proto, .int .i64 hops, .int .i64 cls, .int .i64 id, .int .i64 flags, .int .i64 off, .int .i64 label, .string opt, .string body] := (Blk.new w2 56 _).same (hq.block w2.heap.size (by show w2.heap.size < (w2.alloc _).heap.size; simp))
  have hS3 : Held w 38 #[.int .i64 0, .string ⟨#[]⟩] w3 := ⟨(hS2.blk.alloc _).same (hq.block w.heap.size (by show w.heap.size < (w2.alloc _).heap.size; simp; omega)), (below_drewN (hS2.below.alloc (by omega) _) nq).trans (hq.mono (by show w.heap.size ≤ (w2.alloc _).heap.size; simp; omega))⟩
  clear hq hS2 hF2 r0 r1 fr hB hB2 f4
  have c0 := hP.cell 0
  have c1 := hP.cell 1
  have c2 := hP.cell 2
  have c3 := hP.cell 3
  have c4 := hP.cell 4
  have c5 := hP.cell 5
  have c6 := hP.cell 6
  have c7 := hP.cell 7
  have c8 := hP.cell 8
  have c9 := hP.cell 9
  have c10 := hP.cell 10
  have c11 := hP.cell 11
  simp only [List.getElem?_toArray, List.getElem?_cons_zero, List.getElem?_cons_succ] at c0 c1 c2 c3 c4 c5 c6 c7 c8 c9 c10 c11
  go_wp2_with fail
  refine (HX.out _).mono ?_
  rintro e w4 ⟨rfl, hq⟩
  have hS4 := hS3.next hq
  obtain ⟨r0, r1⟩ : w4.cell? ⟨w.heap.size, 0, none⟩ = some (.int .i64 0) ∧ w4.cell? ⟨w.heap.size, 1, none⟩ = some (.string ⟨#[]⟩) := ⟨hS4.blk.cell 0, hS4.blk.cell 1⟩
  have fr := hS4.blk.frozen
  have hz4 := hS4.blk.lt
  have hB := hS4.below
  have hB2 := hB
  go_wp2_with fail
  refine bodyPost_ret (v := .agg #[.int .i64 K, .string X]) (by simp [results, Try.results20, go_sem, r0, r1]) rfl ⟨rfl, ?_⟩
  (with_reducible (repeat' (first | exact hB | exact hB2 | exact Below.refl _ _ | refine below_drewN ?_ _ | refine Below.drew ?_ | refine Below.alloc ?_ (by first | (simp; done) | (simp; omega) | omega) _ | refine Below.setCell ?_ (by first | (simp; done) | (simp; omega) | omega) _)))
end Go.Proofs.Ytpjndjmneficbaa

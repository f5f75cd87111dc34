/-
  What ip's parse6 answers, for every string: the packet, why there is none, or that it panics, for the bytes are too few.
-/
import Derived.Test.YtpjndjmneficbaaIp4
namespace Go.Proofs.Ytpjndjmneficbaa
open Go.RowKit

def form6 (s : ByteArray) : Prop := nat s 4 2 + 40 = s.size
def pk6 (s : ByteArray) : Pk := ⟨6, s.extract 8 24, s.extract 24 40, nat s 6 1, nat s 7 1, (nat s 0 4 : Int) / 1048576 % 256, 0, 0, 0, (nat s 0 4 : Int) % 1048576, ⟨#[]⟩, s.extract 40 s.size⟩
/-- how parse6 ends -/
def P6 (s : ByteArray) (w : World) (e : Ending) (w' : World) : Prop :=
  s.size < 40 ∧ Panics w e w' ∨ 40 ≤ s.size ∧ ¬ form6 s ∧ Answers w pkZ 71 e w' ∨ 40 ≤ s.size ∧ form6 s ∧ Answers w (pkC (pk6 s)) 0 e w'
theorem parse6_results (w : World) (tmps : Array Value) (gf : Nat) {n : Int} (h2 : tmps[2]?.getD undef = .pointer (some ⟨gf, 0, none⟩)) (h3 : tmps[3]?.getD undef = .int .i64 n) {v : Int} {src dst : ByteArray} {proto hops cls id flags off label : Int} {opt body : ByteArray}
    (hF : Blk w gf 56 (pkL v src dst proto hops cls id flags off label opt body)) : (results Try.f51 tmps).run Try.prog w = .ok (.tuple #[.agg (pkL v src dst proto hops cls id flags off label opt body), .int .i64 n]) w := by
  have c0 := hF.cell 0
  have c1 := hF.cell 1
  have c2 := hF.cell 2
  have c3 := hF.cell 3
  have c4 := hF.cell 4
  have c5 := hF.cell 5
  have c6 := hF.cell 6
  have c7 := hF.cell 7
  have c8 := hF.cell 8
  have c9 := hF.cell 9
  have c10 := hF.cell 10
  have c11 := hF.cell 11
  simp only [pkL] at c0 c1 c2 c3 c4 c5 c6 c7 c8 c9 c10 c11
  simp [results, Try.results51, go_sem, h2, h3, c0, c1, c2, c3, c4, c5, c6, c7, c8, c9, c10, c11, pkL]
set_option maxRecDepth 100000 in
set_option maxHeartbeats 2400000 in
theorem parse6_any (s : ByteArray) (w : World) (hsz : s.size ≤ 281474976710656) : Calls Try.prog 51 #[.string s] w (P6 s w) := by
  have hmf := make_func
  have eA := low8 ((nat s 0 4 : Int) / 1048576)
  have eB := low20 (nat s 0 4 : Int)
  have l0 := nat_lt s 0 4
  have l4 := nat_lt s 4 2
  have H0 := Lib.hid (PS.new w s 6)
  go_enter Try.func51, Try.ntmps51
  go_wp2_with fail
  refine (reader_any _ _).mono ?_
  rintro e w0 ⟨rfl, rfl⟩
  go_wp2_with fail
  by_cases hs0 : s.size < 4
  · refine (next_ps_short H0.out 4 4 rfl (by omega) (by omega)).mono ?_
    rintro e w1 ⟨rfl, hb⟩
    exact ⟨rfl, .inl ⟨by omega, rfl, hb⟩⟩
  refine (next_ps H0.out 4 4 4 rfl rfl (by omega)).mono ?_
  rintro e w1 ⟨rfl, h1⟩
  obtain ⟨⟨r0, r1, r2, r3, r4, r5, r6, r7, r8, r9, r10, r11⟩, ⟨c0, c1, c2, c3, c4, c5, c6, c7, c8, c9, c10, c11⟩, cb, fr, fp, fb⟩ := h1.cells
  have K1 := Lib.hid h1
  clear h1 H0
  go_wp2_with fail
  refine (get_ps K1.out 0 4 4 rfl (by omega) (by omega) (by omega)).mono ?_
  rintro e w2 ⟨rfl, h2⟩
  clear r0 r1 r2 r3 r4 r5 r6 r7 r8 r9 r10 r11 c0 c1 c2 c3 c4 c5 c6 c7 c8 c9 c10 c11 cb fr fp fb
  obtain ⟨⟨r0, r1, r2, r3, r4, r5, r6, r7, r8, r9, r10, r11⟩, ⟨c0, c1, c2, c3, c4, c5, c6, c7, c8, c9, c10, c11⟩, cb, fr, fp, fb⟩ := h2.cells
  have K2 := Lib.hid ((h2.put 5 (.int .i64 ((nat s 0 4 : Int) / 1048576 % 256)) rfl).put 9 (.int .i64 ((nat s 0 4 : Int) % 1048576)) rfl)
  clear h2 K1
  go_wp2_with fail
  by_cases hs2 : s.size < 6
  · refine (next_ps_short K2.out 2 2 rfl (by omega) (by omega)).mono ?_
    rintro e w1 ⟨rfl, hb⟩
    exact ⟨rfl, .inl ⟨by omega, rfl, hb⟩⟩
  refine (next_ps K2.out 2 2 6 rfl rfl (by omega)).mono ?_
  rintro e w3 ⟨rfl, h3⟩
  clear r0 r1 r2 r3 r4 r5 r6 r7 r8 r9 r10 r11 c0 c1 c2 c3 c4 c5 c6 c7 c8 c9 c10 c11 cb fr fp fb
  obtain ⟨⟨r0, r1, r2, r3, r4, r5, r6, r7, r8, r9, r10, r11⟩, ⟨c0, c1, c2, c3, c4, c5, c6, c7, c8, c9, c10, c11⟩, cb, fr, fp, fb⟩ := h3.cells
  have K3 := Lib.hid h3
  clear h3 K2
  go_wp2_with fail
  refine (get_ps K3.out 4 6 2 rfl (by omega) (by omega) (by omega)).mono ?_
  rintro e w4 ⟨rfl, h4⟩
  clear r0 r1 r2 r3 r4 r5 r6 r7 r8 r9 r10 r11 c0 c1 c2 c3 c4 c5 c6 c7 c8 c9 c10 c11 cb fr fp fb
  obtain ⟨⟨r0, r1, r2, r3, r4, r5, r6, r7, r8, r9, r10, r11⟩, ⟨c0, c1, c2, c3, c4, c5, c6, c7, c8, c9, c10, c11⟩, cb, fr, fp, fb⟩ := h4.cells
  have K4 := Lib.hid h4
  clear h4 K3
  go_wp2_with fail
  by_cases hs4 : s.size < 7
  · refine (next_ps_short K4.out 1 1 rfl (by omega) (by omega)).mono ?_
    rintro e w1 ⟨rfl, hb⟩
    exact ⟨rfl, .inl ⟨by omega, rfl, hb⟩⟩
  refine (next_ps K4.out 1 1 7 rfl rfl (by omega)).mono ?_
  rintro e w5 ⟨rfl, h5⟩
  clear r0 r1 r2 r3 r4 r5 r6 r7 r8 r9 r10 r11 c0 c1 c2 c3 c4 c5 c6 c7 c8 c9 c10 c11 cb fr fp fb
  obtain ⟨⟨r0, r1, r2, r3, r4, r5, r6, r7, r8, r9, r10, r11⟩, ⟨c0, c1, c2, c3, c4, c5, c6, c7, c8, c9, c10, c11⟩, cb, fr, fp, fb⟩ := h5.cells
  have K5 := Lib.hid h5
  clear h5 K4
  go_wp2_with fail
  refine (get_ps K5.out 6 7 1 rfl (by omega) (by omega) (by omega)).mono ?_
  rintro e w6 ⟨rfl, h6⟩
  clear r0 r1 r2 r3 r4 r5 r6 r7 r8 r9 r10 r11 c0 c1 c2 c3 c4 c5 c6 c7 c8 c9 c10 c11 cb fr fp fb
  obtain ⟨⟨r0, r1, r2, r3, r4, r5, r6, r7, r8, r9, r10, r11⟩, ⟨c0, c1, c2, c3, c4, c5, c6, c7, c8, c9, c10, c11⟩, cb, fr, fp, fb⟩ := h6.cells
  have K6 := Lib.hid (h6.put 3 (.int .i64 (nat s 6 1)) rfl)
  clear h6 K5
  go_wp2_with fail
  by_cases hs6 : s.size < 8
  · refine (next_ps_short K6.out 1 1 rfl (by omega) (by omega)).mono ?_
    rintro e w1 ⟨rfl, hb⟩
    exact ⟨rfl, .inl ⟨by omega, rfl, hb⟩⟩
  refine (next_ps K6.out 1 1 8 rfl rfl (by omega)).mono ?_
  rintro e w7 ⟨rfl, h7⟩
  clear r0 r1 r2 r3 r4 r5 r6 r7 r8 r9 r10 r11 c0 c1 c2 c3 c4 c5 c6 c7 c8 c9 c10 c11 cb fr fp fb
  obtain ⟨⟨r0, r1, r2, r3, r4, r5, r6, r7, r8, r9, r10, r11⟩, ⟨c0, c1, c2, c3, c4, c5, c6, c7, c8, c9, c10, c11⟩, cb, fr, fp, fb⟩ := h7.cells
  have K7 := Lib.hid h7
  clear h7 K6
  go_wp2_with fail
  refine (get_ps K7.out 7 8 1 rfl (by omega) (by omega) (by omega)).mono ?_
  rintro e w8 ⟨rfl, h8⟩
  clear r0 r1 r2 r3 r4 r5 r6 r7 r8 r9 r10 r11 c0 c1 c2 c3 c4 c5 c6 c7 c8 c9 c10 c11 cb fr fp fb
  obtain ⟨⟨r0, r1, r2, r3, r4, r5, r6, r7, r8, r9, r10, r11⟩, ⟨c0, c1, c2, c3, c4, c5, c6, c7, c8, c9, c10, c11⟩, cb, fr, fp, fb⟩ := h8.cells
  have K8 := Lib.hid (h8.put 4 (.int .i64 (nat s 7 1)) rfl)
  clear h8 K7
  go_wp2_with fail
  by_cases hs8 : s.size < 24
  · refine (next_ps_short K8.out 16 16 rfl (by omega) (by omega)).mono ?_
    rintro e w1 ⟨rfl, hb⟩
    exact ⟨rfl, .inl ⟨by omega, rfl, hb⟩⟩
  refine (next_ps K8.out 16 16 24 rfl rfl (by omega)).mono ?_
  rintro e w9 ⟨rfl, h9⟩
  clear r0 r1 r2 r3 r4 r5 r6 r7 r8 r9 r10 r11 c0 c1 c2 c3 c4 c5 c6 c7 c8 c9 c10 c11 cb fr fp fb
  obtain ⟨⟨r0, r1, r2, r3, r4, r5, r6, r7, r8, r9, r10, r11⟩, ⟨c0, c1, c2, c3, c4, c5, c6, c7, c8, c9, c10, c11⟩, cb, fr, fp, fb⟩ := h9.cells
  have K9 := Lib.hid (h9.put 1 (.string (s.extract 8 24)) rfl)
  clear h9 K8
  go_wp2_with fail
  by_cases hs9 : s.size < 40
  · refine (next_ps_short K9.out 16 16 rfl (by omega) (by omega)).mono ?_
    rintro e w1 ⟨rfl, hb⟩
    exact ⟨rfl, .inl ⟨by omega, rfl, hb⟩⟩
  refine (next_ps K9.out 16 16 40 rfl rfl (by omega)).mono ?_
  rintro e w10 ⟨rfl, h10⟩
  clear r0 r1 r2 r3 r4 r5 r6 r7 r8 r9 r10 r11 c0 c1 c2 c3 c4 c5 c6 c7 c8 c9 c10 c11 cb fr fp fb
  obtain ⟨⟨r0, r1, r2, r3, r4, r5, r6, r7, r8, r9, r10, r11⟩, ⟨c0, c1, c2, c3, c4, c5, c6, c7, c8, c9, c10, c11⟩, cb, fr, fp, fb⟩ := h10.cells
  have K10 := Lib.hid ((h10.put 2 (.string (s.extract 24 40)) rfl).put 11 (.string (s.extract 40 s.size)) rfl)
  clear h10 K9
  have hz : (s.extract 40 s.size).size = s.size - 40 := by simp [ByteArray.size_extract]
  by_cases hT : nat s 4 2 + 40 = s.size
  · have hT' : ((nat s 4 2 : Int) == ((s.size - 40 : Nat) : Int)) = true := by simpa using (by omega : (nat s 4 2 : Int) = ((s.size - 40 : Nat) : Int))
    go_wp2_with fail
    have hR := K10.out.ret (6) (s.extract 8 24) (s.extract 24 40) (nat s 6 1) (nat s 7 1) ((nat s 0 4 : Int) / 1048576 % 256) (0) (0) (0) ((nat s 0 4 : Int) % 1048576) (⟨#[]⟩) (s.extract 40 s.size)
    exact bodyPost_ret (v := .tuple #[.agg (pkC (pk6 s)), .int .i64 0]) (parse6_results _ _ w.heap.size rfl rfl hR.1) rfl (.inr (.inr ⟨by omega, hT, rfl, hR.2⟩))
  · have hT' : ((nat s 4 2 : Int) == ((s.size - 40 : Nat) : Int)) = false := by simpa using (by omega : (nat s 4 2 : Int) ≠ ((s.size - 40 : Nat) : Int))
    go_wp2_with fail
    have hZ := K10.out.ret (0) (⟨#[]⟩) (⟨#[]⟩) (0) (0) (0) (0) (0) (0) (0) (⟨#[]⟩) (⟨#[]⟩)
    exact bodyPost_ret (v := .tuple #[.agg pkZ, .int .i64 71]) (parse6_results _ _ w.heap.size rfl rfl hZ.1) rfl (.inr (.inl ⟨by omega, hT, rfl, hZ.2⟩))
end Go.Proofs.Ytpjndjmneficbaa

/-
  What ip's parse4 and parse6 answer, for every string: the packet, why there is none, or that they panic, for the bytes are too few.
-/
import Derived.Test.YtpjndjmneficbaaIpr
namespace Go.Proofs.Ytpjndjmneficbaa
open Go.RowKit

theorem low4 (n : Int) : bits .and .i64 n 15 = n % 16 := by
  have e : (BitVec.ofInt 64 15).toNat = 2 ^ 4 - 1 := by decide
  have k : (BitVec.ofInt 64 n &&& BitVec.ofInt 64 15).toNat = (n % ((2 ^ 64 : Nat) : Int)).toNat % 2 ^ 4 := by
    rw [BitVec.toNat_and, BitVec.toNat_ofInt, e, Nat.and_two_pow_sub_one_eq_mod]
  show IntKind.i64.wrap ((BitVec.ofInt 64 n &&& BitVec.ofInt 64 15).toNat : Nat) = n % 16
  rw [k, IntKind.wrap_i64]
  omega
theorem low8 (n : Int) : bits .and .i64 n 255 = n % 256 := by
  have e : (BitVec.ofInt 64 255).toNat = 2 ^ 8 - 1 := by decide
  have k : (BitVec.ofInt 64 n &&& BitVec.ofInt 64 255).toNat = (n % ((2 ^ 64 : Nat) : Int)).toNat % 2 ^ 8 := by
    rw [BitVec.toNat_and, BitVec.toNat_ofInt, e, Nat.and_two_pow_sub_one_eq_mod]
  show IntKind.i64.wrap ((BitVec.ofInt 64 n &&& BitVec.ofInt 64 255).toNat : Nat) = n % 256
  rw [k, IntKind.wrap_i64]
  omega
theorem low20 (n : Int) : bits .and .i64 n 1048575 = n % 1048576 := by
  have e : (BitVec.ofInt 64 1048575).toNat = 2 ^ 20 - 1 := by decide
  have k : (BitVec.ofInt 64 n &&& BitVec.ofInt 64 1048575).toNat = (n % ((2 ^ 64 : Nat) : Int)).toNat % 2 ^ 20 := by
    rw [BitVec.toNat_and, BitVec.toNat_ofInt, e, Nat.and_two_pow_sub_one_eq_mod]
  show IntKind.i64.wrap ((BitVec.ofInt 64 n &&& BitVec.ofInt 64 1048575).toNat : Nat) = n % 1048576
  rw [k, IntKind.wrap_i64]
  omega
/-- the bytes of the header of version 4, as its first byte says -/
def n4 (s : ByteArray) : Nat := 4 * (nat s 0 1 % 16)
def short4 (s : ByteArray) : Prop := s.size < 20 ∨ s.size < n4 s
def form4 (s : ByteArray) : Prop := 20 ≤ n4 s ∧ nat s 6 2 / 8192 ≤ 3 ∧ nat s 2 2 = s.size
def sum4 (s : ByteArray) : Prop := sumd (s.extract 0 (n4 s)) = s.extract 0 (n4 s)
def pk4 (s : ByteArray) : Pk := ⟨4, s.extract 12 16, s.extract 16 20, nat s 9 1, nat s 8 1, nat s 1 1, nat s 4 2, nat s 6 2 / 8192, nat s 6 2 % 8192, 0, s.extract 20 (n4 s), s.extract (n4 s) s.size⟩
def Panics (w : World) (e : Ending) (w' : World) : Prop := e = .panicked [{ v := shortI, recovered := false }] ∧ Below w.heap.size w w'
def Answers (w : World) (p : Array Value) (n : Int) (e : Ending) (w' : World) : Prop := e = .returned (.tuple #[.agg p, .int .i64 n]) ∧ Below w.heap.size w w'
/-- how parse4 ends -/
def P4 (s : ByteArray) (w : World) (e : Ending) (w' : World) : Prop :=
  short4 s ∧ Panics w e w' ∨ ¬ short4 s ∧ ¬ form4 s ∧ Answers w pkZ 71 e w' ∨ ¬ short4 s ∧ form4 s ∧ ¬ sum4 s ∧ Answers w pkZ 72 e w' ∨ ¬ short4 s ∧ form4 s ∧ sum4 s ∧ Answers w (pkC (pk4 s)) 0 e w'
theorem parse4_results (w : World) (tmps : Array Value) (gf : Nat) {n : Int} (h2 : tmps[2]?.getD undef = .pointer (some ⟨gf, 0, none⟩)) (h3 : tmps[3]?.getD undef = .int .i64 n) {v : Int} {src dst : ByteArray} {proto hops cls id flags off label : Int} {opt body : ByteArray}
    (hF : Blk w gf 56 (pkL v src dst proto hops cls id flags off label opt body)) : (results Try.f50 tmps).run Try.prog w = .ok (.tuple #[.agg (pkL v src dst proto hops cls id flags off label opt body), .int .i64 n]) w := by
  have c0 := hF.cell 0
  have c1 := hF.cell 1
  have c2 := hF.cell 2
  have c3 := hF.cell 3
  have c4 := hF.cell 4
  have c5 := hF.cell 5
  have c6 := hF.cell 6
  have c7 := hF.cell 7
  have c8 := hF.cell 8
  have c9 := hF.cell 9
  have c10 := hF.cell 10
  have c11 := hF.cell 11
  simp only [pkL] at c0 c1 c2 c3 c4 c5 c6 c7 c8 c9 c10 c11
  simp [results, Try.results50, go_sem, h2, h3, c0, c1, c2, c3, c4, c5, c6, c7, c8, c9, c10, c11, pkL]
set_option maxRecDepth 100000 in
set_option maxHeartbeats 4800000 in
theorem parse4_any (s : ByteArray) (w : World) (hsz : s.size ≤ 281474976710656) : Calls Try.prog 50 #[.string s] w (P4 s w) := by
  have hmf := make_func
  obtain ⟨K, hK, eK, eN⟩ : ∃ K : Nat, K < 16 ∧ bits .and .i64 (nat s 0 1 : Int) 15 = (K : Int) ∧ n4 s = 4 * K := ⟨nat s 0 1 % 16, by omega, by rw [low4]; simp, rfl⟩
  have eP := low13 (nat s 6 2 : Int)
  have l6 := nat_lt s 6 2
  have H0 := Lib.hid (PS.new w s 4)
  go_enter Try.func50, Try.ntmps50
  go_wp2_with fail
  refine (reader_any _ _).mono ?_
  rintro e w0 ⟨rfl, rfl⟩
  go_wp2_with fail
  by_cases hs0 : s.size < 1
  · refine (next_ps_short H0.out 1 1 rfl (by omega) (by omega)).mono ?_
    rintro e w1 ⟨rfl, hb⟩
    exact ⟨rfl, .inl ⟨.inl (by omega), rfl, hb⟩⟩
  refine (next_ps H0.out 1 1 1 rfl rfl (by omega)).mono ?_
  rintro e w1 ⟨rfl, h1⟩
  obtain ⟨⟨r0, r1, r2, r3, r4, r5, r6, r7, r8, r9, r10, r11⟩, ⟨c0, c1, c2, c3, c4, c5, c6, c7, c8, c9, c10, c11⟩, cb, fr, fp, fb⟩ := h1.cells
  have K1 := Lib.hid h1
  clear h1 H0
  go_wp2_with fail
  refine (get_ps K1.out 0 1 1 rfl (by omega) (by omega) (by omega)).mono ?_
  rintro e w2 ⟨rfl, h2⟩
  clear r0 r1 r2 r3 r4 r5 r6 r7 r8 r9 r10 r11 c0 c1 c2 c3 c4 c5 c6 c7 c8 c9 c10 c11 cb fr fp fb
  obtain ⟨⟨r0, r1, r2, r3, r4, r5, r6, r7, r8, r9, r10, r11⟩, ⟨c0, c1, c2, c3, c4, c5, c6, c7, c8, c9, c10, c11⟩, cb, fr, fp, fb⟩ := h2.cells
  have K2 := Lib.hid h2
  clear h2 K1
  go_wp2_with fail
  by_cases hs2 : s.size < 2
  · refine (next_ps_short K2.out 1 1 rfl (by omega) (by omega)).mono ?_
    rintro e w1 ⟨rfl, hb⟩
    exact ⟨rfl, .inl ⟨.inl (by omega), rfl, hb⟩⟩
  refine (next_ps K2.out 1 1 2 rfl rfl (by omega)).mono ?_
  rintro e w3 ⟨rfl, h3⟩
  clear r0 r1 r2 r3 r4 r5 r6 r7 r8 r9 r10 r11 c0 c1 c2 c3 c4 c5 c6 c7 c8 c9 c10 c11 cb fr fp fb
  obtain ⟨⟨r0, r1, r2, r3, r4, r5, r6, r7, r8, r9, r10, r11⟩, ⟨c0, c1, c2, c3, c4, c5, c6, c7, c8, c9, c10, c11⟩, cb, fr, fp, fb⟩ := h3.cells
  have K3 := Lib.hid h3
  clear h3 K2
  go_wp2_with fail
  refine (get_ps K3.out 1 2 1 rfl (by omega) (by omega) (by omega)).mono ?_
  rintro e w4 ⟨rfl, h4⟩
  clear r0 r1 r2 r3 r4 r5 r6 r7 r8 r9 r10 r11 c0 c1 c2 c3 c4 c5 c6 c7 c8 c9 c10 c11 cb fr fp fb
  obtain ⟨⟨r0, r1, r2, r3, r4, r5, r6, r7, r8, r9, r10, r11⟩, ⟨c0, c1, c2, c3, c4, c5, c6, c7, c8, c9, c10, c11⟩, cb, fr, fp, fb⟩ := h4.cells
  have K4 := Lib.hid (h4.put 5 (.int .i64 (nat s 1 1)) rfl)
  clear h4 K3
  go_wp2_with fail
  by_cases hs4 : s.size < 4
  · refine (next_ps_short K4.out 2 2 rfl (by omega) (by omega)).mono ?_
    rintro e w1 ⟨rfl, hb⟩
    exact ⟨rfl, .inl ⟨.inl (by omega), rfl, hb⟩⟩
  refine (next_ps K4.out 2 2 4 rfl rfl (by omega)).mono ?_
  rintro e w5 ⟨rfl, h5⟩
  clear r0 r1 r2 r3 r4 r5 r6 r7 r8 r9 r10 r11 c0 c1 c2 c3 c4 c5 c6 c7 c8 c9 c10 c11 cb fr fp fb
  obtain ⟨⟨r0, r1, r2, r3, r4, r5, r6, r7, r8, r9, r10, r11⟩, ⟨c0, c1, c2, c3, c4, c5, c6, c7, c8, c9, c10, c11⟩, cb, fr, fp, fb⟩ := h5.cells
  have K5 := Lib.hid h5
  clear h5 K4
  go_wp2_with fail
  refine (get_ps K5.out 2 4 2 rfl (by omega) (by omega) (by omega)).mono ?_
  rintro e w6 ⟨rfl, h6⟩
  clear r0 r1 r2 r3 r4 r5 r6 r7 r8 r9 r10 r11 c0 c1 c2 c3 c4 c5 c6 c7 c8 c9 c10 c11 cb fr fp fb
  obtain ⟨⟨r0, r1, r2, r3, r4, r5, r6, r7, r8, r9, r10, r11⟩, ⟨c0, c1, c2, c3, c4, c5, c6, c7, c8, c9, c10, c11⟩, cb, fr, fp, fb⟩ := h6.cells
  have K6 := Lib.hid h6
  clear h6 K5
  go_wp2_with fail
  by_cases hs6 : s.size < 6
  · refine (next_ps_short K6.out 2 2 rfl (by omega) (by omega)).mono ?_
    rintro e w1 ⟨rfl, hb⟩
    exact ⟨rfl, .inl ⟨.inl (by omega), rfl, hb⟩⟩
  refine (next_ps K6.out 2 2 6 rfl rfl (by omega)).mono ?_
  rintro e w7 ⟨rfl, h7⟩
  clear r0 r1 r2 r3 r4 r5 r6 r7 r8 r9 r10 r11 c0 c1 c2 c3 c4 c5 c6 c7 c8 c9 c10 c11 cb fr fp fb
  obtain ⟨⟨r0, r1, r2, r3, r4, r5, r6, r7, r8, r9, r10, r11⟩, ⟨c0, c1, c2, c3, c4, c5, c6, c7, c8, c9, c10, c11⟩, cb, fr, fp, fb⟩ := h7.cells
  have K7 := Lib.hid h7
  clear h7 K6
  go_wp2_with fail
  refine (get_ps K7.out 4 6 2 rfl (by omega) (by omega) (by omega)).mono ?_
  rintro e w8 ⟨rfl, h8⟩
  clear r0 r1 r2 r3 r4 r5 r6 r7 r8 r9 r10 r11 c0 c1 c2 c3 c4 c5 c6 c7 c8 c9 c10 c11 cb fr fp fb
  obtain ⟨⟨r0, r1, r2, r3, r4, r5, r6, r7, r8, r9, r10, r11⟩, ⟨c0, c1, c2, c3, c4, c5, c6, c7, c8, c9, c10, c11⟩, cb, fr, fp, fb⟩ := h8.cells
  have K8 := Lib.hid (h8.put 6 (.int .i64 (nat s 4 2)) rfl)
  clear h8 K7
  go_wp2_with fail
  by_cases hs8 : s.size < 8
  · refine (next_ps_short K8.out 2 2 rfl (by omega) (by omega)).mono ?_
    rintro e w1 ⟨rfl, hb⟩
    exact ⟨rfl, .inl ⟨.inl (by omega), rfl, hb⟩⟩
  refine (next_ps K8.out 2 2 8 rfl rfl (by omega)).mono ?_
  rintro e w9 ⟨rfl, h9⟩
  clear r0 r1 r2 r3 r4 r5 r6 r7 r8 r9 r10 r11 c0 c1 c2 c3 c4 c5 c6 c7 c8 c9 c10 c11 cb fr fp fb
  obtain ⟨⟨r0, r1, r2, r3, r4, r5, r6, r7, r8, r9, r10, r11⟩, ⟨c0, c1, c2, c3, c4, c5, c6, c7, c8, c9, c10, c11⟩, cb, fr, fp, fb⟩ := h9.cells
  have K9 := Lib.hid h9
  clear h9 K8
  go_wp2_with fail
  refine (get_ps K9.out 6 8 2 rfl (by omega) (by omega) (by omega)).mono ?_
  rintro e w10 ⟨rfl, h10⟩
  clear r0 r1 r2 r3 r4 r5 r6 r7 r8 r9 r10 r11 c0 c1 c2 c3 c4 c5 c6 c7 c8 c9 c10 c11 cb fr fp fb
  obtain ⟨⟨r0, r1, r2, r3, r4, r5, r6, r7, r8, r9, r10, r11⟩, ⟨c0, c1, c2, c3, c4, c5, c6, c7, c8, c9, c10, c11⟩, cb, fr, fp, fb⟩ := h10.cells
  have K10 := Lib.hid ((h10.put 7 (.int .i64 (nat s 6 2 / 8192)) rfl).put 8 (.int .i64 (nat s 6 2 % 8192)) rfl)
  clear h10 K9
  go_wp2_with fail
  by_cases hs10 : s.size < 9
  · refine (next_ps_short K10.out 1 1 rfl (by omega) (by omega)).mono ?_
    rintro e w1 ⟨rfl, hb⟩
    exact ⟨rfl, .inl ⟨.inl (by omega), rfl, hb⟩⟩
  refine (next_ps K10.out 1 1 9 rfl rfl (by omega)).mono ?_
  rintro e w11 ⟨rfl, h11⟩
  clear r0 r1 r2 r3 r4 r5 r6 r7 r8 r9 r10 r11 c0 c1 c2 c3 c4 c5 c6 c7 c8 c9 c10 c11 cb fr fp fb
  obtain ⟨⟨r0, r1, r2, r3, r4, r5, r6, r7, r8, r9, r10, r11⟩, ⟨c0, c1, c2, c3, c4, c5, c6, c7, c8, c9, c10, c11⟩, cb, fr, fp, fb⟩ := h11.cells
  have K11 := Lib.hid h11
  clear h11 K10
  go_wp2_with fail
  refine (get_ps K11.out 8 9 1 rfl (by omega) (by omega) (by omega)).mono ?_
  rintro e w12 ⟨rfl, h12⟩
  clear r0 r1 r2 r3 r4 r5 r6 r7 r8 r9 r10 r11 c0 c1 c2 c3 c4 c5 c6 c7 c8 c9 c10 c11 cb fr fp fb
  obtain ⟨⟨r0, r1, r2, r3, r4, r5, r6, r7, r8, r9, r10, r11⟩, ⟨c0, c1, c2, c3, c4, c5, c6, c7, c8, c9, c10, c11⟩, cb, fr, fp, fb⟩ := h12.cells
  have K12 := Lib.hid (h12.put 4 (.int .i64 (nat s 8 1)) rfl)
  clear h12 K11
  go_wp2_with fail
  by_cases hs12 : s.size < 10
  · refine (next_ps_short K12.out 1 1 rfl (by omega) (by omega)).mono ?_
    rintro e w1 ⟨rfl, hb⟩
    exact ⟨rfl, .inl ⟨.inl (by omega), rfl, hb⟩⟩
  refine (next_ps K12.out 1 1 10 rfl rfl (by omega)).mono ?_
  rintro e w13 ⟨rfl, h13⟩
  clear r0 r1 r2 r3 r4 r5 r6 r7 r8 r9 r10 r11 c0 c1 c2 c3 c4 c5 c6 c7 c8 c9 c10 c11 cb fr fp fb
  obtain ⟨⟨r0, r1, r2, r3, r4, r5, r6, r7, r8, r9, r10, r11⟩, ⟨c0, c1, c2, c3, c4, c5, c6, c7, c8, c9, c10, c11⟩, cb, fr, fp, fb⟩ := h13.cells
  have K13 := Lib.hid h13
  clear h13 K12
  go_wp2_with fail
  refine (get_ps K13.out 9 10 1 rfl (by omega) (by omega) (by omega)).mono ?_
  rintro e w14 ⟨rfl, h14⟩
  clear r0 r1 r2 r3 r4 r5 r6 r7 r8 r9 r10 r11 c0 c1 c2 c3 c4 c5 c6 c7 c8 c9 c10 c11 cb fr fp fb
  obtain ⟨⟨r0, r1, r2, r3, r4, r5, r6, r7, r8, r9, r10, r11⟩, ⟨c0, c1, c2, c3, c4, c5, c6, c7, c8, c9, c10, c11⟩, cb, fr, fp, fb⟩ := h14.cells
  have K14 := Lib.hid (h14.put 3 (.int .i64 (nat s 9 1)) rfl)
  clear h14 K13
  go_wp2_with fail
  by_cases hs14 : s.size < 12
  · refine (next_ps_short K14.out 2 2 rfl (by omega) (by omega)).mono ?_
    rintro e w1 ⟨rfl, hb⟩
    exact ⟨rfl, .inl ⟨.inl (by omega), rfl, hb⟩⟩
  refine (next_ps K14.out 2 2 12 rfl rfl (by omega)).mono ?_
  rintro e w15 ⟨rfl, h15⟩
  clear r0 r1 r2 r3 r4 r5 r6 r7 r8 r9 r10 r11 c0 c1 c2 c3 c4 c5 c6 c7 c8 c9 c10 c11 cb fr fp fb
  obtain ⟨⟨r0, r1, r2, r3, r4, r5, r6, r7, r8, r9, r10, r11⟩, ⟨c0, c1, c2, c3, c4, c5, c6, c7, c8, c9, c10, c11⟩, cb, fr, fp, fb⟩ := h15.cells
  have K15 := Lib.hid h15
  clear h15 K14
  go_wp2_with fail
  by_cases hs15 : s.size < 16
  · refine (next_ps_short K15.out 4 4 rfl (by omega) (by omega)).mono ?_
    rintro e w1 ⟨rfl, hb⟩
    exact ⟨rfl, .inl ⟨.inl (by omega), rfl, hb⟩⟩
  refine (next_ps K15.out 4 4 16 rfl rfl (by omega)).mono ?_
  rintro e w16 ⟨rfl, h16⟩
  clear r0 r1 r2 r3 r4 r5 r6 r7 r8 r9 r10 r11 c0 c1 c2 c3 c4 c5 c6 c7 c8 c9 c10 c11 cb fr fp fb
  obtain ⟨⟨r0, r1, r2, r3, r4, r5, r6, r7, r8, r9, r10, r11⟩, ⟨c0, c1, c2, c3, c4, c5, c6, c7, c8, c9, c10, c11⟩, cb, fr, fp, fb⟩ := h16.cells
  have K16 := Lib.hid (h16.put 1 (.string (s.extract 12 16)) rfl)
  clear h16 K15
  go_wp2_with fail
  by_cases hs16 : s.size < 20
  · refine (next_ps_short K16.out 4 4 rfl (by omega) (by omega)).mono ?_
    rintro e w1 ⟨rfl, hb⟩
    exact ⟨rfl, .inl ⟨.inl (by omega), rfl, hb⟩⟩
  refine (next_ps K16.out 4 4 20 rfl rfl (by omega)).mono ?_
  rintro e w17 ⟨rfl, h17⟩
  clear r0 r1 r2 r3 r4 r5 r6 r7 r8 r9 r10 r11 c0 c1 c2 c3 c4 c5 c6 c7 c8 c9 c10 c11 cb fr fp fb
  obtain ⟨⟨r0, r1, r2, r3, r4, r5, r6, r7, r8, r9, r10, r11⟩, ⟨c0, c1, c2, c3, c4, c5, c6, c7, c8, c9, c10, c11⟩, cb, fr, fp, fb⟩ := h17.cells
  have K17 := Lib.hid (h17.put 2 (.string (s.extract 16 20)) rfl)
  clear h17 K16
  by_cases hN : K < 5
  · have hb4 := Lib.hid (show ¬ form4 s from fun h => by have := h.1; omega)
    have hs4 := Lib.hid (show ¬ short4 s from fun h => by rcases h with h | h <;> omega)
    go_wp2_with fail
    obtain ⟨X, hX⟩ : ∃ X, s.extract 20 20 = X := ⟨_, rfl⟩
    have A := next_ps K17.out 0 0 20 rfl rfl (by omega)
    rw [hX] at A
    refine A.mono ?_
    clear hX
    rintro e w18 ⟨rfl, h18⟩
    clear r0 r1 r2 r3 r4 r5 r6 r7 r8 r9 r10 r11 c0 c1 c2 c3 c4 c5 c6 c7 c8 c9 c10 c11 cb fr fp fb
    obtain ⟨⟨r0, r1, r2, r3, r4, r5, r6, r7, r8, r9, r10, r11⟩, ⟨c0, c1, c2, c3, c4, c5, c6, c7, c8, c9, c10, c11⟩, cb, fr, fp, fb⟩ := h18.cells
    have K18 := Lib.hid (h18.put 10 (.string X) rfl)
    clear h18 K17
    go_wp2_with fail
    have hZ := K18.out.ret (0) (⟨#[]⟩) (⟨#[]⟩) (0) (0) (0) (0) (0) (0) (0) (⟨#[]⟩) (⟨#[]⟩)
    exact bodyPost_ret (v := .tuple #[.agg pkZ, .int .i64 71]) (parse4_results _ _ w.heap.size rfl rfl hZ.1) rfl (.inr (.inl ⟨hs4.out, hb4.out, rfl, hZ.2⟩))
  · have q0 : ¬ (4 * (K : Int) < 20) := by omega
    go_wp2_with fail
    by_cases hsK : s.size < 4 * K
    · refine (next_ps_short K17.out (4 * (K : Int) - 20) (4 * K - 20) (by omega) (by omega) (by omega)).mono ?_
      rintro e w1 ⟨rfl, hb⟩
      exact ⟨rfl, .inl ⟨.inr (by omega), rfl, hb⟩⟩
    have hs4 := Lib.hid (show ¬ short4 s from fun h => by rcases h with h | h <;> omega)
    refine (next_ps K17.out (4 * (K : Int) - 20) (4 * K - 20) (4 * K) (by omega) (by omega) (by omega)).mono ?_
    rintro e w18 ⟨rfl, h18⟩
    clear r0 r1 r2 r3 r4 r5 r6 r7 r8 r9 r10 r11 c0 c1 c2 c3 c4 c5 c6 c7 c8 c9 c10 c11 cb fr fp fb
    obtain ⟨⟨r0, r1, r2, r3, r4, r5, r6, r7, r8, r9, r10, r11⟩, ⟨c0, c1, c2, c3, c4, c5, c6, c7, c8, c9, c10, c11⟩, cb, fr, fp, fb⟩ := h18.cells
    have K18 := Lib.hid (h18.put 10 (.string (s.extract 20 (4 * K))) rfl)
    clear h18 K17
    by_cases hF : nat s 6 2 / 8192 ≤ 3
    · by_cases hT : nat s 2 2 = s.size
      · have hT' : ((nat s 2 2 : Int) == (s.size : Int)) = true := by rw [hT]; simp
        have hfm := Lib.hid (show form4 s from ⟨by omega, hF, hT⟩)
        have hzh : (s.extract 0 (4 * K)).size = 4 * K := by simp [ByteArray.size_extract]; omega
        have A := fun W => summed_any (s.extract 0 (4 * K)) W (by omega) (by omega)
        obtain ⟨Y, hY⟩ : ∃ Y, sumd (s.extract 0 (4 * K)) = Y := ⟨_, rfl⟩
        rw [hY] at A
        have HA := Lib.hid A
        have HY := Lib.hid hY
        have i1 : (4 * (K : Int)).toNat = 4 * K := by omega
        clear A hzh hY
        go_wp2_with fail
        refine (HA.out _).mono ?_
        rintro e w30 ⟨rfl, hq⟩
        have h30 := (K18.out).on hq
        clear r0 r1 r2 r3 r4 r5 r6 r7 r8 r9 r10 r11 c0 c1 c2 c3 c4 c5 c6 c7 c8 c9 c10 c11 cb fr fp fb
        obtain ⟨⟨r0, r1, r2, r3, r4, r5, r6, r7, r8, r9, r10, r11⟩, ⟨c0, c1, c2, c3, c4, c5, c6, c7, c8, c9, c10, c11⟩, cb, fr, fp, fb⟩ := h30.cells
        clear hq
        by_cases hE : Y = s.extract 0 (4 * K)
        · have hsm := Lib.hid (show sum4 s by unfold sum4; rw [eN, HY.out]; exact hE)
          subst hE
          have K30 := Lib.hid (h30.put 11 (.string (s.extract (4 * K) s.size)) rfl)
          clear h30
          go_wp2_with fail
          have hR := K30.out.ret (4) (s.extract 12 16) (s.extract 16 20) (nat s 9 1) (nat s 8 1) (nat s 1 1) (nat s 4 2) (nat s 6 2 / 8192) (nat s 6 2 % 8192) (0) (s.extract 20 (4 * K)) (s.extract (4 * K) s.size)
          refine bodyPost_ret (v := .tuple #[.agg (pkC (pk4 s)), .int .i64 0]) ((parse4_results _ _ w.heap.size rfl rfl hR.1).trans ?_) rfl (.inr (.inr (.inr ⟨hs4.out, hfm.out, hsm.out, rfl, hR.2⟩)))
          unfold pk4 pkC pkL
          rw [eN]
        · have hsm := Lib.hid (show ¬ sum4 s by unfold sum4; rw [eN, HY.out]; exact hE)
          have hne := str_ne hE
          clear hE
          go_wp2_with fail
          have hZ := h30.ret (0) (⟨#[]⟩) (⟨#[]⟩) (0) (0) (0) (0) (0) (0) (0) (⟨#[]⟩) (⟨#[]⟩)
          exact bodyPost_ret (v := .tuple #[.agg pkZ, .int .i64 72]) (parse4_results _ _ w.heap.size rfl rfl hZ.1) rfl (.inr (.inr (.inl ⟨hs4.out, hfm.out, hsm.out, rfl, hZ.2⟩)))
      · have hT' : ((nat s 2 2 : Int) != (s.size : Int)) = true := by simpa using (by omega : (nat s 2 2 : Int) ≠ s.size)
        have hb4 := Lib.hid (show ¬ form4 s from fun h => hT h.2.2)
        go_wp2_with fail
        have hZ := K18.out.ret (0) (⟨#[]⟩) (⟨#[]⟩) (0) (0) (0) (0) (0) (0) (0) (⟨#[]⟩) (⟨#[]⟩)
        exact bodyPost_ret (v := .tuple #[.agg pkZ, .int .i64 71]) (parse4_results _ _ w.heap.size rfl rfl hZ.1) rfl (.inr (.inl ⟨hs4.out, hb4.out, rfl, hZ.2⟩))
    · have hb4 := Lib.hid (show ¬ form4 s from fun h => hF h.2.1)
      go_wp2_with fail
      have hZ := K18.out.ret (0) (⟨#[]⟩) (⟨#[]⟩) (0) (0) (0) (0) (0) (0) (0) (⟨#[]⟩) (⟨#[]⟩)
      exact bodyPost_ret (v := .tuple #[.agg pkZ, .int .i64 71]) (parse4_results _ _ w.heap.size rfl rfl hZ.1) rfl (.inr (.inl ⟨hs4.out, hb4.out, rfl, hZ.2⟩))
end Go.Proofs.Ytpjndjmneficbaa

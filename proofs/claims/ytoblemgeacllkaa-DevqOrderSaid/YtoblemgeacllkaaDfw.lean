/-
  The laws' fixed returns true, and leaves all that was there; no condition.
-/
import Derived.Test.YtoblemgeacllkaaDfx
namespace Go.Proofs.Ytoblemgeacllkaa
open Go.RowKit

set_option maxRecDepth 100000
theorem PtsAt.of_blk {w : World} {gl : Nat} {l : List Pt} {cs : Array Value} (h : Blk w gl 56 cs) (hcs : cs = (ptCells l).toArray) : PtsAt (some ⟨gl, 0, none⟩) l w := by
  intro _
  subst hcs
  refine ⟨gl, rfl, h.lt, fun j u hu => ?_⟩
  rw [h.cell j]
  simpa using hu
theorem build_is (A L I F : Nat) (hA : A < 18446744073709551616) (hL : L < 4294967296) (hI : I ≤ 65535) (hF : F ≤ 65535) (S : ByteArray) (hS : desB A L I F = S) (w : World) :
    Calls Try.prog 29 #[.agg #[.int .u64 (A : Int), .int .u32 (L : Int), .int .i64 (I : Int), .int .i64 (F : Int)]] w fun e w' => e = .returned (.tuple #[.string S, .int .i64 0]) ∧ Below w.heap.size w w' := by
  have hw : isW (I : Int) (F : Int) := ⟨by omega, by omega⟩
  have e : buE (I : Int) (F : Int) = 0 := by unfold buE; rw [if_pos hw]
  have e2 : buS A L (I : Int) (F : Int) = desB A L I F := by unfold buS; rw [if_pos hw]; rfl
  refine (rbuild_any A L I F hA hL w).mono fun e1 w' ⟨h1, h2⟩ => ⟨?_, h2⟩
  rw [h1, e, e2, hS]
/-- laid of fixed's world -/
theorem laid_fixed (w : World) : Calls Try.prog 7 #[.agg #[.int .i64 256, .int .i64 0, .int .i64 4, .int .i64 64, .int .i64 68, .slice none 0 0]] w fun e w' =>
    ∃ gq g gb gx, e = .returned (.tuple #[.pointer (some ⟨g, 0, none⟩), .pointer (some ⟨gq, 0, none⟩), .pointer (some ⟨gx, 0, none⟩), .bool true]) ∧ Ow w gq g gb fX0 fQ0 w' ∧ Far w w' := by
  refine (laid_any 256 0 4 64 68 (.slice none 0 0) w).mono fun e w' h => ?_
  unfold LaidP at h
  rw [fx_bytes, show List.replicate 256 (0 : UInt8) = fX0 from rfl, fx_lay, fx_new] at h
  obtain ⟨hb, h⟩ := h
  rw [if_pos rfl] at h
  obtain ⟨gq, g, gb, gx, gk, lv, he, hl⟩ := h
  exact ⟨gq, g, gb, gx, he, ⟨⟨lv, hl.own⟩, hb⟩, Far.of_below hb⟩
section
variable {w : World} {gq g gb : Nat} {W : World}
theorem fx_next1 (h : Ow w gq g gb fX0 fQ0 W) : Calls Try.prog 11 #[.pointer (some ⟨gq, 0, none⟩)] W fun e W' => ∃ A cap, e = .returned (.tuple #[.agg #[.int .i64 0, .int .i64 0, .slice A 0 cap], .bool false, .int .i64 0]) ∧ Ow w gq g gb fX0 fQ0 W' ∧ Far W W' :=
  (h.nextQ fx_o0 _ fx_n1).mono fun _ _ ⟨A, cap, he, _, ho, hf⟩ => ⟨A, cap, he, ho, hf⟩
theorem fx_next2 (h : Ow w gq g gb fX1 fQ0 W) : Calls Try.prog 11 #[.pointer (some ⟨gq, 0, none⟩)] W fun e W' => ∃ A cap, e = .returned (.tuple #[.agg #[.int .i64 7, .int .i64 1, .slice A 1 cap], .bool true, .int .i64 0]) ∧ W'.ownsRow W.heap.size 56 3 (.slice A 1 cap) 1 (ptCells fC.parts) ∧ Ow w gq g gb fX1 fQ1 W' ∧ Far W W' :=
  h.nextQ (by rw [fx_z1]; exact fx_o0) _ fx_n2
theorem fx_next3 (h : Ow w gq g gb fX3 fQ3 W) : Calls Try.prog 11 #[.pointer (some ⟨gq, 0, none⟩)] W fun e W' => ∃ A cap, e = .returned (.tuple #[.agg #[.int .i64 0, .int .i64 0, .slice A 0 cap], .bool false, .int .i64 141]) ∧ Ow w gq g gb fX3 fQ4 W' ∧ Far W W' :=
  (h.nextQ (by rw [fx_z3]; exact fx_o3) _ fx_n3).mono fun _ _ ⟨A, cap, he, _, ho, hf⟩ => ⟨A, cap, he, ho, hf⟩
theorem fx_done1 (h : Ow w gq g gb fX1 fQ1 W) : Calls Try.prog 14 #[.pointer (some ⟨gq, 0, none⟩), .int .i64 7, .int .i64 2, .int .i64 0] W fun e W' => e = .returned (.int .i64 1) ∧ Ow w gq g gb fX1 fQ1 W' ∧ Far W W' :=
  h.doneQ (by rw [fx_z1]; exact fx_o1) (by decide) 7 2 0 _ fx_d1
theorem fx_done2 (h : Ow w gq g gb fX1 fQ1 W) : Calls Try.prog 14 #[.pointer (some ⟨gq, 0, none⟩), .int .i64 7, .int .i64 1, .int .i64 0] W fun e W' => e = .returned (.int .i64 0) ∧ Ow w gq g gb fX2 fQ2 W' ∧ Far W W' :=
  h.doneQ (by rw [fx_z1]; exact fx_o1) (by decide) 7 1 0 _ fx_d2
theorem fx_done3 (h : Ow w gq g gb fX3 fQ4 W) : Calls Try.prog 14 #[.pointer (some ⟨gq, 0, none⟩), .int .i64 7, .int .i64 1, .int .i64 0] W fun e W' => e = .returned (.int .i64 141) ∧ Ow w gq g gb fX3 fQ4 W' ∧ Far W W' :=
  h.doneQ (by rw [fx_z3]; exact fx_o4) (by decide) 7 1 0 _ fx_d3
theorem fx_load (h : Ow w gq g gb fX2 fQ2 W) : Calls Try.prog 30 #[.pointer (some ⟨g, 0, none⟩), .int .i64 14, .int .i64 2] W fun e W' => e = .returned (.tuple #[.int .u64 32896, .int .i64 0]) ∧ Ow w gq g gb fX2 fQ2 W' ∧ Far W W' :=
  h.loadQ 14 2 (.inr (.inl rfl)) (by rw [fx_z2]; decide) 32896 fx_ld
theorem fx_tell1 (h : Ow w gq g gb fX2 fQ2 W) : Calls Try.prog 16 #[.pointer (some ⟨gq, 0, none⟩)] W fun e W' => e = .returned (.bool true) ∧ Ow w gq g gb fX2 fQ3 W' ∧ Far W W' :=
  h.tellQ (by rw [fx_z2]; exact fx_o2) _ fx_t1
theorem fx_tell2 (h : Ow w gq g gb fX2 fQ3 W) : Calls Try.prog 16 #[.pointer (some ⟨gq, 0, none⟩)] W fun e W' => e = .returned (.bool false) ∧ Ow w gq g gb fX2 fQ3 W' ∧ Far W W' :=
  h.tellQ (by rw [fx_z2]; exact fx_o3) _ fx_t2
theorem fx_write1 (h : Ow w gq g gb fX0 fQ0 W) (S : ByteArray) (hS : desB 128 5 7 128 = S) : Calls Try.prog 9 #[.pointer (some ⟨g, 0, none⟩), .int .i64 0, .string S] W fun e W' => (∃ n, e = .returned (.int .i64 n)) ∧ Ow w gq g gb fX1 fQ0 W' ∧ Far W W' := by
  subst hS
  exact (h.writeQ 0 (desB 128 5 7 128) (by rw [desB_size]; decide)).mono fun _ _ ⟨h1, h2⟩ => ⟨⟨_, h1⟩, h2⟩
theorem fx_write2 (h : Ow w gq g gb fX2 fQ3 W) (S : ByteArray) (hS : desB 255 5 7 128 = S) : Calls Try.prog 9 #[.pointer (some ⟨g, 0, none⟩), .int .i64 16, .string S] W fun e W' => (∃ n, e = .returned (.int .i64 n)) ∧ Ow w gq g gb fX3 fQ3 W' ∧ Far W W' := by
  subst hS
  exact (h.writeQ 16 (desB 255 5 7 128) (by rw [desB_size]; decide)).mono fun _ _ ⟨h1, h2⟩ => ⟨⟨_, h1⟩, h2⟩
theorem fx_broken (h : Ow w gq g gb fX3 fQ4 W) : Calls Try.prog 25 #[.pointer (some ⟨gq, 0, none⟩)] W fun e W' => e = .returned (.bool true) ∧ W = W' := h.brokenQ
theorem fx_out (h : Ow w gq g gb fX3 fQ4 W) : Calls Try.prog 26 #[.pointer (some ⟨gq, 0, none⟩)] W fun e W' => e = .returned (.int .i64 0) ∧ W = W' := h.outQ
theorem fx_same (A : Option Addr) (cap : Nat) (b : Nat) (h1 : PtsAt A fC.parts W) (h2 : Blk W b 56 #[.int .i64 128, .int .i64 5, .bool false]) :
    Calls Try.prog 13 #[.agg #[.int .i64 7, .int .i64 1, .slice A 1 cap], .agg #[.int .i64 7, .int .i64 1, .slice (some ⟨b, 0, none⟩) 1 1]] W fun e W' => e = .returned (.bool true) ∧ Below W.heap.size W W' :=
  same_yes fC A (some ⟨b, 0, none⟩) cap 1 W (by decide) h1 (PtsAt.of_blk h2 rfl)
end
set_option maxRecDepth 100000 in
set_option maxHeartbeats 3200000 in
theorem fixed_any (w : World) : Calls Try.prog 27 #[] w fun e w' => e = .returned (.bool true) ∧ Below w.heap.size w w' := by
  obtain ⟨S1, hS1⟩ : ∃ S, desB 128 5 7 128 = S := ⟨_, rfl⟩
  obtain ⟨S2, hS2⟩ : ∃ S, desB 255 5 7 128 = S := ⟨_, rfl⟩
  have HB1 : ∀ W, Calls Try.prog 29 #[.agg #[.int .u64 128, .int .u32 5, .int .i64 7, .int .i64 128]] W fun e w' => e = .returned (.tuple #[.string S1, .int .i64 0]) ∧ Below W.heap.size W w' := fun W => build_is 128 5 7 128 (by decide) (by decide) (by decide) (by decide) S1 hS1 W
  have HB2 : ∀ W, Calls Try.prog 29 #[.agg #[.int .u64 255, .int .u32 5, .int .i64 7, .int .i64 128]] W fun e w' => e = .returned (.tuple #[.string S2, .int .i64 0]) ∧ Below W.heap.size W w' := fun W => build_is 255 5 7 128 (by decide) (by decide) (by decide) (by decide) S2 hS2 W
  have HB1 := Lib.hid HB1
  have HB2 := Lib.hid HB2
  have HS1 := Lib.hid hS1
  have HS2 := Lib.hid hS2
  clear hS1 hS2
  go_enter Try.func27, Try.ntmps27
  go_wp2_with fail
  refine (laid_fixed _).mono ?_
  rintro e w1 ⟨gq, g, gb, gx, rfl, O1, -⟩
  have hb := ba (Below.refl w.heap.size w) (.cells #[.int .i64 0, .int .i64 4, .int .i64 64, .int .i64 68] 23)
  have HB := Lib.hid hb
  obtain ⟨w0, hw0⟩ : ∃ w0, w.alloc (.cells #[.int .i64 0, .int .i64 4, .int .i64 64, .int .i64 68] 23) = w0 := ⟨_, rfl⟩
  rw [hw0] at O1 HB
  have O1 := Lib.hid O1
  clear hb hw0
  go_wp2_with fail
  refine (fx_next1 O1.out).mono ?_
  rintro e w2 ⟨A1, cap1, rfl, O2, -⟩
  have O2 := Lib.hid (O2.next (ba (Below.refl _ _) (.cells #[.int .i64 0, .int .i64 0, .slice A1 0 cap1] 51)))
  clear O1
  go_wp2_with fail
  refine (HB1.out _).mono ?_
  rintro e w3 ⟨rfl, hq⟩
  have O3 := Lib.hid (O2.out.next hq)
  clear O2 hq
  go_wp2_with fail
  refine (fx_write1 O3.out S1 HS1.out).mono ?_
  rintro e w4 ⟨⟨n4, rfl⟩, O4, -⟩
  have O4 := Lib.hid O4
  clear O3
  go_wp2_with fail
  refine (fx_next2 O4.out).mono ?_
  rintro e w5 ⟨A, cap, rfl, own5, O5, -⟩
  have k5 := Blk.new w5 51 #[.int .i64 7, .int .i64 1, .slice A 1 cap]
  have O5 := Lib.hid (O5.next (ba (Below.refl _ _) (.cells #[.int .i64 7, .int .i64 1, .slice A 1 cap] 51)))
  have own5 := own5.alloc (.cells #[.int .i64 7, .int .i64 1, .slice A 1 cap] 51)
  clear O4
  go_wp2_with fail
  refine (fx_done1 O5.out).mono ?_
  rintro e w6 ⟨rfl, O6, f6⟩
  have k6 := k5.far f6 (by decide) (by decide) (by decide) (by decide)
  have own6 := own_far own5 f6 (by decide) (by decide) (by decide) (by decide)
  have O6 := Lib.hid O6
  clear O5 k5 own5 f6
  go_wp2_with fail
  refine (fx_done2 O6.out).mono ?_
  rintro e w7 ⟨rfl, O7, f7⟩
  have O7 := Lib.hid O7
  go_wp2_with fail
  refine (fx_load O7.out).mono ?_
  rintro e w8 ⟨rfl, O8, f8⟩
  have f8 := f7.trans f8
  have O8 := Lib.hid O8
  clear f7 O7 O6
  go_wp2_with fail
  refine (fx_tell1 O8.out).mono ?_
  rintro e w9 ⟨rfl, O9, f9⟩
  have f9 := f8.trans f9
  have O9 := Lib.hid O9
  clear f8 O8
  go_wp2_with fail
  refine (fx_tell2 O9.out).mono ?_
  rintro e w10 ⟨rfl, O10, f10⟩
  have f10 := f9.trans f10
  have O10 := Lib.hid O10
  clear f9 O9
  go_wp2_with fail
  refine (HB2.out _).mono ?_
  rintro e w11 ⟨rfl, hq⟩
  have O11 := Lib.hid (O10.out.next hq)
  have f11 := f10.trans (Far.of_below hq)
  clear O10 f10 hq
  go_wp2_with fail
  refine (fx_write2 O11.out S2 HS2.out).mono ?_
  rintro e w12 ⟨⟨n12, rfl⟩, O12, f12⟩
  have f12 := f11.trans f12
  have O12 := Lib.hid O12
  clear O11 f11
  go_wp2_with fail
  refine (fx_next3 O12.out).mono ?_
  rintro e w13 ⟨A3, cap3, rfl, O13, f13⟩
  have f13 := (f12.trans f13).trans (Far.of_below (ba (Below.refl _ _) (.cells #[.int .i64 0, .int .i64 0, .slice A3 0 cap3] 51)))
  have O13 := Lib.hid (O13.next (ba (Below.refl _ _) (.cells #[.int .i64 0, .int .i64 0, .slice A3 0 cap3] 51)))
  clear O12 f12
  go_wp2_with fail
  refine (O13.out.newQ 0 0 0 0 fx_l0).mono ?_
  rintro e w14 ⟨hq, rfl⟩
  have O14 := Lib.hid (O13.out.next hq)
  have f14 := f13.trans (Far.of_below hq)
  have k14 := k6.far f14 (by decide) (by decide) (by decide) (by decide)
  have own14 := own_far own6 f14 (by decide) (by decide) (by decide) (by decide)
  have c0 := k14.cell 0
  have c1 := k14.cell 1
  have c2 := k14.cell 2
  simp only [List.getElem?_toArray, List.getElem?_cons_zero, List.getElem?_cons_succ] at c0 c1 c2
  have P14 := Lib.hid (PtsAt.of_own (l := fC.parts) own14)
  have hlt := k14.lt
  clear O13 f13 f14 k6 own6 own14 hq
  go_wp2_with fail
  refine (fx_same A cap _ (P14.out.below (ba (Below.refl _ _) _)) (Blk.new _ _ _)).mono ?_
  rintro e w15 ⟨rfl, hq⟩
  have O15 := Lib.hid ((O14.out.next (ba (Below.refl _ _) (.cells #[.int .i64 128, .int .i64 5, .bool false] 56))).next hq)
  clear O14 P14 k14 c0 c1 c2 hlt hq
  go_wp2_with fail
  refine (fx_broken O15.out).mono ?_
  rintro e w16 ⟨rfl, rfl⟩
  go_wp2_with fail
  refine (fx_done3 O15.out).mono ?_
  rintro e w17 ⟨rfl, O17, -⟩
  have O17 := Lib.hid O17
  clear O15
  go_wp2_with fail
  refine (fx_out O17.out).mono ?_
  rintro e w18 ⟨rfl, rfl⟩
  go_wp2_with fail
  go_ret
  exact ⟨rfl, b0 HB.out O17.out.below⟩
end Go.Proofs.Ytoblemgeacllkaa

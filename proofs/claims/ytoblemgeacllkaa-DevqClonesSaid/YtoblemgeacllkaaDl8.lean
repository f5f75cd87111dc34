/-
  DevqClones' walk: a clone over a clone of the memory takes the same next chain; no condition.
-/
import Derived.Test.YtoblemgeacllkaaDl7
import Derived.Test.YtoblemgeacllkaaDl6
namespace Go.Proofs.Ytoblemgeacllkaa
open Go.RowKit

set_option maxRecDepth 100000 in
set_option maxHeartbeats 3200000 in
theorem clones_none (b r z x y : Int) (A : Option Addr) (n c : Nat) (hL : layB (List.replicate (bytesN b) 0) r z x y = false) (w : World) :
    Calls Try.prog 6 #[.agg #[.int .i64 b, .int .i64 r, .int .i64 z, .int .i64 x, .int .i64 y, .slice A n c]] w fun e w' => e = .returned (.bool true) ∧ Below w.heap.size w w' := by
  have HL := Lib.hid (fun W => laid_none b r z x y (.slice A n c) hL W)
  have HF := Lib.hid fixed_any
  have hb1 := ba (Below.refl w.heap.size w) (.cells #[.int .i64 b, .int .i64 r, .int .i64 z, .int .i64 x, .int .i64 y, .slice A n c] 26)
  clear hL
  go_enter Try.func6, Try.ntmps6
  go_wp2_with fail
  refine (HL.out _).mono ?_
  rintro e w1 ⟨p, rfl, hq⟩
  have hb2 := b0 hb1 hq
  clear hb1 hq HL
  go_wp2_with (go_at_call 27; ((with_reducible refine (HF.out _).mono ?_); rintro e w2 ⟨rfl, hq⟩))
  go_ret
  exact ⟨rfl, b0 hb2 hq⟩
set_option maxRecDepth 100000 in
set_option maxHeartbeats 6400000 in
theorem clones_some (b r z x y : Int) (A : Option Addr) (n c : Nat) (hL : layB (List.replicate (bytesN b) 0) r z x y = true) (w : World) (hA : OpsAt A n w) :
    Calls Try.prog 6 #[.agg #[.int .i64 b, .int .i64 r, .int .i64 z, .int .i64 x, .int .i64 y, .slice A n c]] w fun e w' => e = .returned (.bool true) ∧ Below w.heap.size w w' := by
  have HL := Lib.hid (fun W => laid_good b r z x y (.slice A n c) hL W)
  have HF := Lib.hid fixed_any
  have hb1 := Lib.hid (ba (Below.refl w.heap.size w) (.cells #[.int .i64 b, .int .i64 r, .int .i64 z, .int .i64 x, .int .i64 y, .slice A n c] 26))
  have hz := (lay_size hL).1
  have hok := newQ_ok hL
  have hbx := Blk.new w 26 #[.int .i64 b, .int .i64 r, .int .i64 z, .int .i64 x, .int .i64 y, .slice A n c]
  have hA1 := hA.below (ba (Below.refl _ _) (.cells #[.int .i64 b, .int .i64 r, .int .i64 z, .int .i64 x, .int .i64 y, .slice A n c] 26))
  obtain ⟨xs0, hX0⟩ : ∃ X, List.replicate (bytesN b) (0 : UInt8) = X := ⟨_, rfl⟩
  rw [hX0] at HL hL hok
  obtain ⟨q0, hQ⟩ : ∃ q, newQ r z x y = q := ⟨_, rfl⟩
  rw [hQ] at HL hok
  have HLB := Lib.hid hL
  clear hA hX0 hL hQ
  go_enter Try.func6, Try.ntmps6
  go_wp2_with fail
  refine (HL.out _).mono ?_
  rintro e w1 ⟨gq, g, gb, gx, rfl, O1⟩
  obtain ⟨w0, hw0⟩ : ∃ w0, w.alloc (.cells #[.int .i64 b, .int .i64 r, .int .i64 z, .int .i64 x, .int .i64 y, .slice A n c] 26) = w0 := ⟨_, rfl⟩
  rw [hw0] at hb1 hbx hA1 O1
  have O1 := Lib.hid O1
  generalize w.heap.size = g0 at hbx ⊢
  clear hw0 HL
  go_wp2_with fail
  go_loopw [7] (fun i wr => ∃ k : Nat, k ≤ n ∧ i = .int .i64 k ∧ ∃ xs q, xs.length = xs0.length ∧ q.Ok xs.length ∧ Ow w0 gq g gb xs q wr) (fun i _ => n - (intOf i).toNat)
  case atStart => exact ⟨0, Nat.zero_le _, rfl, xs0, q0, rfl, hok, O1.out⟩
  case round =>
    obtain ⟨k, hk, rfl, xs, q, hx, hok, O⟩ := hrel
    have O := Lib.hid O
    have hb := O.out.below
    have hbk := hbx.same (hb.block _ hbx.lt)
    have c5 := hbk.cell 5
    simp only [List.getElem?_toArray, List.getElem?_cons_zero, List.getElem?_cons_succ] at c5
    by_cases hlt : k < n ∧ k < 50
    · obtain ⟨l1, l2⟩ := hlt
      obtain ⟨b1, off, o, rfl, ho, hb1', hcs⟩ := hA1.op k l1
      have hf : WF g0 r z x y b1 off n c k o w0 := ⟨⟨hbx.cell 1, hbx.cell 2, hbx.cell 3, hbx.cell 4, hbx.cell 5⟩, hcs⟩
      have HM := Lib.hid (fun W => memory_any o ho r z x y hz W)
      have i0 := WFs.start (hf.next hbx.lt hb1' hb) (Nat.lt_of_lt_of_le hbx.lt hb.size) (Nat.lt_of_lt_of_le hb1' hb.size)
      have hkn : (k : Int) < (n : Int) := by omega
      go_wp2_with fail
      go_region_held3 (fun w' => ((w'.cell? ⟨g0, 1, none⟩ = some (.int .i64 r) ∧ w'.cell? ⟨g0, 2, none⟩ = some (.int .i64 z) ∧ w'.cell? ⟨g0, 3, none⟩ = some (.int .i64 x) ∧ w'.cell? ⟨g0, 4, none⟩ = some (.int .i64 y) ∧ w'.cell? ⟨g0, 5, none⟩ = some (.slice (some ⟨b1, off, none⟩) n c)) ∧
    (w'.cell? ⟨b1, off + k * 13, none⟩ = some (.int .i64 o.k) ∧ w'.cell? ⟨b1, off + k * 13 + 1, none⟩ = some (.int .i64 o.a) ∧ w'.cell? ⟨b1, off + k * 13 + 2, none⟩ = some (.int .u64 (o.da : Int)) ∧ w'.cell? ⟨b1, off + k * 13 + 3, none⟩ = some (.int .u32 (o.dn : Int)) ∧
      w'.cell? ⟨b1, off + k * 13 + 4, none⟩ = some (.int .i64 o.di) ∧ w'.cell? ⟨b1, off + k * 13 + 5, none⟩ = some (.int .i64 o.df) ∧ w'.cell? ⟨b1, off + k * 13 + 6, none⟩ = some (.string o.s) ∧ w'.cell? ⟨b1, off + k * 13 + 7, none⟩ = some (.int .i64 o.n) ∧ w'.cell? ⟨b1, off + k * 13 + 8, none⟩ = some (.int .i64 o.wr) ∧
      w'.cell? ⟨b1, off + k * 13 + 9, none⟩ = some (.int .i64 o.eo) ∧ w'.cell? ⟨b1, off + k * 13 + 10, none⟩ = some (.bool o.ew) ∧ w'.cell? ⟨b1, off + k * 13 + 11, none⟩ = some (.int .i64 o.ef) ∧ w'.cell? ⟨b1, off + k * 13 + 12, none⟩ = some (.bool o.v))) ∧ WFs g0 r z x y b1 off n c k o wr w')
        (first | exact i0 | exact WFs.after (by assumption) hq)
        (first | (go_at_call 8; (with_reducible refine (HM.out _).mono ?_); rintro e w' ⟨pa, ps, pis, rfl, hps, hq⟩))
      rename_i w2 hH
      have O2 := Lib.hid (O.out.next hH.2.2.1)
      clear hH i0 O c5 hbk hb hcs HM O1 HF
      have hps : ps.size ≤ maxLen := by unfold maxLen; omega
      -- what is written: the memory's bytes then
      have S3 : ∀ xs', xs'.length = xs0.length → q.Ok xs'.length → ∀ W, Ow w0 gq g gb xs' q W → W.cell? ⟨b1, off + k * 13, none⟩ = some (.int .i64 o.k) ∧ W.cell? ⟨g0, 5, none⟩ = some (.slice (some ⟨b1, off, none⟩) n c) := fun xs' _ _ W hO => by
        have hf2 := hf.next hbx.lt hb1' hO.below
        exact ⟨hf2.2.1, hf2.1.2.2.2.2⟩
      cases pis
      · obtain ⟨f0, f5⟩ := S3 xs hx hok _ O2.out
        by_cases h4 : o.k = 4
        · have h4b : (o.k == 4) = true := by simp [h4]
          go_wp2_with fail
          refine (O2.out.nextQ hok _ rfl).mono ?_
          rintro e w4 ⟨A4, cap4, rfl, -, O4, -⟩
          have hok4 := (nextC_ok hok).1
          go_wp2_with fail
          go_roundw
          case rel => exact ⟨k + 1, by omega, by go_num, xs, _, hx, hok4, O4⟩
          case measure => simp [intOf]; omega
        · have h4b : (o.k == 4) = false := by simp [h4]
          go_wp2_with fail
          go_roundw
          case rel => exact ⟨k + 1, by omega, by go_num, xs, q, hx, hok, O2.out⟩
          case measure => simp [intOf]; omega
      · go_wp2_with fail
        refine (O2.out.writeQ pa ps hps).mono ?_
        rintro e w3 ⟨rfl, O3, -⟩
        have hx3 := (wrX_length xs pa ps).trans hx
        have hok3 : q.Ok (wrX xs pa ps).length := by rw [wrX_length]; exact hok
        obtain ⟨f0, f5⟩ := S3 _ hx3 hok3 _ O3
        have O2 := Lib.hid O3
        obtain ⟨xs, hxs⟩ : ∃ X, wrX xs pa ps = X := ⟨_, rfl⟩
        rw [hxs] at O2 hx3 hok3
        clear O3 hxs hx hok
        have hx := hx3
        have hok := hok3
        by_cases h4 : o.k = 4
        · have h4b : (o.k == 4) = true := by simp [h4]
          go_wp2_with fail
          refine (O2.out.nextQ hok _ rfl).mono ?_
          rintro e w4 ⟨A4, cap4, rfl, -, O4, -⟩
          have hok4 := (nextC_ok hok).1
          go_wp2_with fail
          go_roundw
          case rel => exact ⟨k + 1, by omega, by go_num, xs, _, hx, hok4, O4⟩
          case measure => simp [intOf]; omega
        · have h4b : (o.k == 4) = false := by simp [h4]
          go_wp2_with fail
          go_roundw
          case rel => exact ⟨k + 1, by omega, by go_num, xs, q, hx, hok, O2.out⟩
          case measure => simp [intOf]; omega
    · have O := O.out
      by_cases l1 : k < n
      · have l2 : ¬ k < 50 := fun h => hlt ⟨l1, h⟩
        clear hbk hb O1 hlt
        go_wp2_with fail
        refine O.cloneM.mono ?_
        rintro e w2 ⟨g2, gb2, lv2, rfl, hM2, hq2⟩
        clear c5
        go_wp2_with fail
        refine (O.cloneQ hq2 hM2).mono ?_
        rintro e w3 ⟨rfl, D3⟩
        generalize w2.heap.size = gk at D3 ⊢
        clear hM2 hq2 O
        have D3 := Lib.hid D3
        go_wp2_with fail
        refine D3.out.right.outQ.mono ?_
        rintro e w4 ⟨rfl, rfl⟩
        go_wp2_with fail
        refine D3.out.right.brokenQ.mono ?_
        rintro e w4 ⟨rfl, rfl⟩
        obtain ⟨R, hR⟩ : ∃ R, nextC xs q = R := ⟨_, rfl⟩
        have hpl : R.1.parts.length ≤ 8192 := by rw [← hR]; have := next_parts xs q; omega
        go_wp2_with fail
        refine (D3.out.nextQ hok _ hR).mono ?_
        rintro e w4 ⟨A4, cap4, rfl, own4, D4, -⟩
        have k4 := Blk.new w4 51 #[.int .i64 (R.1.id : Int), .int .i64 (R.1.count : Int), .slice A4 R.1.parts.length cap4]
        have own4 := own4.alloc (.cells #[.int .i64 (R.1.id : Int), .int .i64 (R.1.count : Int), .slice A4 R.1.parts.length cap4] 51)
        have D5 := Lib.hid (D4.next (ba (Below.refl _ _) (.cells #[.int .i64 (R.1.id : Int), .int .i64 (R.1.count : Int), .slice A4 R.1.parts.length cap4] 51)))
        clear D3 D4
        go_wp2_with fail
        refine D5.out.right.outQ.mono ?_
        rintro e w6 ⟨rfl, rfl⟩
        have e1 : ((q.out : Int) != (q.out : Int)) = false := by simp
        have e2 : (q.broken != q.broken) = false := by simp
        go_wp2_with fail
        refine D5.out.right.brokenQ.mono ?_
        rintro e w6 ⟨rfl, rfl⟩
        go_wp2_with fail
        refine (D5.out.swap.nextQ hok _ hR).mono ?_
        rintro e w6 ⟨A6, cap6, rfl, own6, D6, f6⟩
        have k6 := k4.far f6 (by decide) (by decide) (by decide) (by decide)
        have p6 := (PtsAt.of_own (l := R.1.parts) (own_far own4 f6 (by decide) (by decide) (by decide) (by decide)))
        have p7 := (PtsAt.of_own (l := R.1.parts) own6)
        have hb7 := ba (Below.refl _ w6) (.cells #[.int .i64 (R.1.id : Int), .int .i64 (R.1.count : Int), .slice A6 R.1.parts.length cap6] 51)
        have k7 := Blk.new w6 51 #[.int .i64 (R.1.id : Int), .int .i64 (R.1.count : Int), .slice A6 R.1.parts.length cap6]
        have p6 := Lib.hid (p6.below hb7)
        have p7 := Lib.hid (p7.below hb7)
        have k6 := k6.same (hb7.block _ k6.lt)
        have D7 := Lib.hid (D6.next hb7)
        have HPL := Lib.hid hpl
        clear hb7 D6 D5 k4 own4 own6 f6 hpl
        have k7 := k7
        have x0 := k6.cell 0
        have x1 := k6.cell 1
        have x2 := k6.cell 2
        have y0 := k7.cell 0
        have y1 := k7.cell 1
        have y2 := k7.cell 2
        simp only [List.getElem?_toArray, List.getElem?_cons_zero, List.getElem?_cons_succ] at x0 x1 x2 y0 y1 y2
        have hlt6 := k6.lt
        have b6 : (R.2.1 == R.2.1) = true := by simp
        have b7 : (R.2.2.1 == R.2.2.1) = true := by simp
        have b8 : ((R.2.2.2.out : Int) == (R.2.2.2.out : Int)) = true := by simp
        have b9 : (R.2.2.2.broken == R.2.2.2.broken) = true := by simp
        clear k6 k7
        go_wp2_with fail
        refine (same_yes R.1 A4 A6 cap4 cap6 _ HPL.out p6.out p7.out).mono ?_
        rintro e w8 ⟨rfl, hq⟩
        have D8 := Lib.hid (D7.out.next hq)
        have hb8 := D8.out.below
        have hbk := hbx.same (hb8.block _ hbx.lt)
        have c1 := hbk.cell 1
        have c2 := hbk.cell 2
        have c3 := hbk.cell 3
        have c4 := hbk.cell 4
        simp only [List.getElem?_toArray, List.getElem?_cons_zero, List.getElem?_cons_succ] at c1 c2 c3 c4
        have hbk := hbk.lt
        have hE : layE xs r z x y = 0 := by unfold layE; rw [if_pos ((layB_len hx r z x y).trans HLB.out)]
        have HE := Lib.hid hE
        clear hq D7 p6 p7 HPL x0 x1 x2 y0 y1 y2 hb8 hE hlt6
        go_wp2_with fail
        refine D8.out.right.outQ.mono ?_
        rintro e w9 ⟨rfl, rfl⟩
        go_wp2_with fail
        refine D8.out.left.outQ.mono ?_
        rintro e w9 ⟨rfl, rfl⟩
        go_wp2_with fail
        refine D8.out.right.brokenQ.mono ?_
        rintro e w9 ⟨rfl, rfl⟩
        go_wp2_with fail
        refine D8.out.left.brokenQ.mono ?_
        rintro e w9 ⟨rfl, rfl⟩
        go_wp2_with fail
        refine (D8.out.left.checkQ r z x y).mono ?_
        rintro e w9 ⟨rfl, hq⟩
        have D9 := D8.out.next hq
        rw [HE.out]
        clear D8 hq c1 c2 c3 c4
        go_wp2_with fail
        refine (HF.out _).mono ?_
        rintro e w10 ⟨rfl, hq⟩
        go_wp2_with fail
        go_ret
        exact ⟨rfl, b0 hb1.out (b0 D9.below hq)⟩
      · clear hbk hb O1 hlt
        go_wp2_with fail
        refine O.cloneM.mono ?_
        rintro e w2 ⟨g2, gb2, lv2, rfl, hM2, hq2⟩
        clear c5
        go_wp2_with fail
        refine (O.cloneQ hq2 hM2).mono ?_
        rintro e w3 ⟨rfl, D3⟩
        generalize w2.heap.size = gk at D3 ⊢
        clear hM2 hq2 O
        have D3 := Lib.hid D3
        go_wp2_with fail
        refine D3.out.right.outQ.mono ?_
        rintro e w4 ⟨rfl, rfl⟩
        go_wp2_with fail
        refine D3.out.right.brokenQ.mono ?_
        rintro e w4 ⟨rfl, rfl⟩
        obtain ⟨R, hR⟩ : ∃ R, nextC xs q = R := ⟨_, rfl⟩
        have hpl : R.1.parts.length ≤ 8192 := by rw [← hR]; have := next_parts xs q; omega
        go_wp2_with fail
        refine (D3.out.nextQ hok _ hR).mono ?_
        rintro e w4 ⟨A4, cap4, rfl, own4, D4, -⟩
        have k4 := Blk.new w4 51 #[.int .i64 (R.1.id : Int), .int .i64 (R.1.count : Int), .slice A4 R.1.parts.length cap4]
        have own4 := own4.alloc (.cells #[.int .i64 (R.1.id : Int), .int .i64 (R.1.count : Int), .slice A4 R.1.parts.length cap4] 51)
        have D5 := Lib.hid (D4.next (ba (Below.refl _ _) (.cells #[.int .i64 (R.1.id : Int), .int .i64 (R.1.count : Int), .slice A4 R.1.parts.length cap4] 51)))
        clear D3 D4
        go_wp2_with fail
        refine D5.out.right.outQ.mono ?_
        rintro e w6 ⟨rfl, rfl⟩
        have e1 : ((q.out : Int) != (q.out : Int)) = false := by simp
        have e2 : (q.broken != q.broken) = false := by simp
        go_wp2_with fail
        refine D5.out.right.brokenQ.mono ?_
        rintro e w6 ⟨rfl, rfl⟩
        go_wp2_with fail
        refine (D5.out.swap.nextQ hok _ hR).mono ?_
        rintro e w6 ⟨A6, cap6, rfl, own6, D6, f6⟩
        have k6 := k4.far f6 (by decide) (by decide) (by decide) (by decide)
        have p6 := (PtsAt.of_own (l := R.1.parts) (own_far own4 f6 (by decide) (by decide) (by decide) (by decide)))
        have p7 := (PtsAt.of_own (l := R.1.parts) own6)
        have hb7 := ba (Below.refl _ w6) (.cells #[.int .i64 (R.1.id : Int), .int .i64 (R.1.count : Int), .slice A6 R.1.parts.length cap6] 51)
        have k7 := Blk.new w6 51 #[.int .i64 (R.1.id : Int), .int .i64 (R.1.count : Int), .slice A6 R.1.parts.length cap6]
        have p6 := Lib.hid (p6.below hb7)
        have p7 := Lib.hid (p7.below hb7)
        have k6 := k6.same (hb7.block _ k6.lt)
        have D7 := Lib.hid (D6.next hb7)
        have HPL := Lib.hid hpl
        clear hb7 D6 D5 k4 own4 own6 f6 hpl
        have k7 := k7
        have x0 := k6.cell 0
        have x1 := k6.cell 1
        have x2 := k6.cell 2
        have y0 := k7.cell 0
        have y1 := k7.cell 1
        have y2 := k7.cell 2
        simp only [List.getElem?_toArray, List.getElem?_cons_zero, List.getElem?_cons_succ] at x0 x1 x2 y0 y1 y2
        have hlt6 := k6.lt
        have b6 : (R.2.1 == R.2.1) = true := by simp
        have b7 : (R.2.2.1 == R.2.2.1) = true := by simp
        have b8 : ((R.2.2.2.out : Int) == (R.2.2.2.out : Int)) = true := by simp
        have b9 : (R.2.2.2.broken == R.2.2.2.broken) = true := by simp
        clear k6 k7
        go_wp2_with fail
        refine (same_yes R.1 A4 A6 cap4 cap6 _ HPL.out p6.out p7.out).mono ?_
        rintro e w8 ⟨rfl, hq⟩
        have D8 := Lib.hid (D7.out.next hq)
        have hb8 := D8.out.below
        have hbk := hbx.same (hb8.block _ hbx.lt)
        have c1 := hbk.cell 1
        have c2 := hbk.cell 2
        have c3 := hbk.cell 3
        have c4 := hbk.cell 4
        simp only [List.getElem?_toArray, List.getElem?_cons_zero, List.getElem?_cons_succ] at c1 c2 c3 c4
        have hbk := hbk.lt
        have hE : layE xs r z x y = 0 := by unfold layE; rw [if_pos ((layB_len hx r z x y).trans HLB.out)]
        have HE := Lib.hid hE
        clear hq D7 p6 p7 HPL x0 x1 x2 y0 y1 y2 hb8 hE hlt6
        go_wp2_with fail
        refine D8.out.right.outQ.mono ?_
        rintro e w9 ⟨rfl, rfl⟩
        go_wp2_with fail
        refine D8.out.left.outQ.mono ?_
        rintro e w9 ⟨rfl, rfl⟩
        go_wp2_with fail
        refine D8.out.right.brokenQ.mono ?_
        rintro e w9 ⟨rfl, rfl⟩
        go_wp2_with fail
        refine D8.out.left.brokenQ.mono ?_
        rintro e w9 ⟨rfl, rfl⟩
        go_wp2_with fail
        refine (D8.out.left.checkQ r z x y).mono ?_
        rintro e w9 ⟨rfl, hq⟩
        have D9 := D8.out.next hq
        rw [HE.out]
        clear D8 hq c1 c2 c3 c4
        go_wp2_with fail
        refine (HF.out _).mono ?_
        rintro e w10 ⟨rfl, hq⟩
        go_wp2_with fail
        go_ret
        exact ⟨rfl, b0 hb1.out (b0 D9.below hq)⟩
theorem clones_all (b r z x y : Int) (A : Option Addr) (n c : Nat) (w : World) (hA : OpsAt A n w) :
    Calls Try.prog 6 #[.agg #[.int .i64 b, .int .i64 r, .int .i64 z, .int .i64 x, .int .i64 y, .slice A n c]] w fun e w' => e = .returned (.bool true) ∧ Below w.heap.size w w' := by
  cases hL : layB (List.replicate (bytesN b) 0) r z x y
  · exact clones_none b r z x y A n c hL w
  · exact clones_some b r z x y A n c hL w hA
end Go.Proofs.Ytoblemgeacllkaa

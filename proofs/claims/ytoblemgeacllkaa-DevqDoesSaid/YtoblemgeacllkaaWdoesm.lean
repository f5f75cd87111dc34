/-
  DevqDoes holds: the queue of the package devq does what the one of the document does, whatever lies in memory; no condition.
-/
import Derived.Test.YtoblemgeacllkaaMh
import Derived.Deep.CutRange
import Derived.Deep.CutBlock
import Derived.Test.YtoblemgeacllkaaWfr
import Derived.Test.YtoblemgeacllkaaLaw
namespace Go.Proofs.Ytoblemgeacllkaa
open Go.RowKit

set_option maxRecDepth 100000 in
set_option maxHeartbeats 3200000 in
theorem does_none (b r z x y : Int) (A : Option Addr) (n c : Nat) (hL : layB (List.replicate (bytesN b) 0) r z x y = false) (w : World) :
    Calls Try.prog 3 #[.agg #[.int .i64 b, .int .i64 r, .int .i64 z, .int .i64 x, .int .i64 y, .slice A n c]] w fun e w' => e = .returned (.bool true) ∧ Below w.heap.size w w' := by
  have HL := Lib.hid (fun W => laid_none b r z x y (.slice A n c) hL W)
  have HF := Lib.hid fixed_any
  have hb1 := ba (Below.refl w.heap.size w) (.cells #[.int .i64 b, .int .i64 r, .int .i64 z, .int .i64 x, .int .i64 y, .slice A n c] 26)
  clear hL
  go_enter Try.func3, Try.ntmps3
  go_wp2_with fail
  refine (HL.out _).mono ?_
  rintro e w1 ⟨p, rfl, hq⟩
  have hb2 := Lib.hid (b0 hb1 hq)
  clear hb1 hq HL
  go_wp2_with fail
  go_loopw [3, 4, 7] (fun mp qp iv wr => iv = .int .i64 0 ∧ qp = .pointer none ∧ wr = w1) (fun _ _ _ _ => 0)
  case atStart => exact ⟨rfl, rfl, rfl⟩
  case round =>
    obtain ⟨rfl, rfl, rfl⟩ := hrel
    go_wp2_with fail
    refine (HF.out _).mono ?_
    rintro e w2 ⟨rfl, hq⟩
    go_wp2_with fail
    go_ret
    exact ⟨rfl, b0 hb2.out hq⟩
theorem Bo.start {w0 W : World} {gq g gb gx gk : Nat} {lv lk : Value} {xs : List UInt8} {lg : List Acc} {q : Qs} (h : Laid w0.heap.size gq g gb gx gk lv lk xs lg q W) (hb : Below w0.heap.size w0 W) : Bo w0 gq g gb xs q gx gk xs q lg W :=
  ⟨⟨lv, lk, h.own, ⟨h.hx, h.blk, h.mem⟩, h.apart⟩, hb⟩
theorem laid_both (b r z x y : Int) (S : Value) (hL : layB (List.replicate (bytesN b) 0) r z x y = true) (w : World) :
    Calls Try.prog 7 #[.agg #[.int .i64 b, .int .i64 r, .int .i64 z, .int .i64 x, .int .i64 y, S]] w fun e w' =>
      ∃ gq g gb gx gk, e = .returned (.tuple #[.pointer (some ⟨g, 0, none⟩), .pointer (some ⟨gq, 0, none⟩), .pointer (some ⟨gx, 0, none⟩), .bool true]) ∧ Bo w gq g gb (List.replicate (bytesN b) 0) (newQ r z x y) gx gk (List.replicate (bytesN b) 0) (newQ r z x y) [] w' := by
  refine (laid_any b r z x y S w).mono fun e w' h => ?_
  unfold LaidP at h
  rw [hL] at h
  obtain ⟨hb, h⟩ := h
  rw [if_pos rfl] at h
  obtain ⟨gq, g, gb, gx, gk, lv, he, hl⟩ := h
  exact ⟨gq, g, gb, gx, gk, he, Bo.start hl hb⟩
set_option maxRecDepth 100000 in
set_option maxHeartbeats 25600000 in
theorem does_some (b r z x y : Int) (A : Option Addr) (n c : Nat) (hL : layB (List.replicate (bytesN b) 0) r z x y = true) (w : World) (hA : OpsAt A n w) :
    Calls Try.prog 3 #[.agg #[.int .i64 b, .int .i64 r, .int .i64 z, .int .i64 x, .int .i64 y, .slice A n c]] w fun e w' => e = .returned (.bool true) ∧ Below w.heap.size w w' := by
  have HL := Lib.hid (fun W => laid_both b r z x y (.slice A n c) hL W)
  have HF := Lib.hid fixed_any
  have hb1 := Lib.hid (ba (Below.refl w.heap.size w) (.cells #[.int .i64 b, .int .i64 r, .int .i64 z, .int .i64 x, .int .i64 y, .slice A n c] 26))
  have hz := (lay_size hL).1
  have hok := newQ_ok hL
  have hbx := Blk.new w 26 #[.int .i64 b, .int .i64 r, .int .i64 z, .int .i64 x, .int .i64 y, .slice A n c]
  have hA1 := hA.below (ba (Below.refl _ _) (.cells #[.int .i64 b, .int .i64 r, .int .i64 z, .int .i64 x, .int .i64 y, .slice A n c] 26))
  have hn64 : 64 ≤ (List.replicate (bytesN b) (0 : UInt8)).length := by rw [List.length_replicate]; exact (bytesN_le b).1
  obtain ⟨xs0, hX0⟩ : ∃ X, List.replicate (bytesN b) (0 : UInt8) = X := ⟨_, rfl⟩
  rw [hX0] at HL hL hok hn64
  obtain ⟨q0, hQ⟩ : ∃ q, newQ r z x y = q := ⟨_, rfl⟩
  have hsi : q0.since = 0 := by rw [← hQ]; rfl
  rw [hQ] at HL hok
  have Hsi := Lib.hid hsi
  clear hA hX0 hL hQ hsi
  go_enter Try.func3, Try.ntmps3
  go_wp2_with fail
  refine (HL.out _).mono ?_
  rintro e w1 ⟨gq0, g0, gb0, gx, gk, rfl, B1⟩
  obtain ⟨w0, hw0⟩ : ∃ w0, w.alloc (.cells #[.int .i64 b, .int .i64 r, .int .i64 z, .int .i64 x, .int .i64 y, .slice A n c] 26) = w0 := ⟨_, rfl⟩
  rw [hw0] at hb1 hbx hA1 B1
  have B1 := Lib.hid B1
  generalize w.heap.size = gB at hbx ⊢
  clear hw0 HL
  go_wp2_with fail
  go_loopw [3, 4, 7] (fun mp qp iv wr => ∃ (k gq g gb : Nat) (xs : List UInt8) (q : Qs) (lg : List Acc), k ≤ n ∧ k ≤ 100 ∧ iv = .int .i64 k ∧ mp = .pointer (some ⟨g, 0, none⟩) ∧ qp = .pointer (some ⟨gq, 0, none⟩) ∧ xs.length = xs0.length ∧ q.Ok xs.length ∧ q.since ≤ 40000 * k ∧ lg.length ≤ 2 * k ∧ Bo w0 gq g gb xs q gx gk xs q lg wr) (fun _ _ iv _ => 100 - (intOf iv).toNat)
  case atStart => exact ⟨0, gq0, g0, gb0, xs0, q0, [], Nat.zero_le _, Nat.zero_le _, rfl, rfl, rfl, rfl, hok, by rw [Hsi.out]; exact Nat.zero_le _, Nat.zero_le _, B1.out⟩
  case round =>
    obtain ⟨k, gq, g, gb, xs, q, lg, hk, hk2, rfl, rfl, rfl, hx, hok, hsi, hlg, BB⟩ := hrel
    clear B1
    have BB := Lib.hid BB
    have hb := BB.out.below
    have hbk := hbx.same (hb.block _ hbx.lt)
    have c5 := hbk.cell 5
    simp only [List.getElem?_toArray, List.getElem?_cons_zero, List.getElem?_cons_succ] at c5
    by_cases hlt : k < n ∧ k < 100
    · obtain ⟨l1, l2⟩ := hlt
      obtain ⟨b1, off, o, rfl, ho, hb1', hcs⟩ := hA1.op k l1
      have hf : WF gB r z x y b1 off n c k o w0 := ⟨⟨hbx.cell 1, hbx.cell 2, hbx.cell 3, hbx.cell 4, hbx.cell 5⟩, hcs⟩
      have HM := Lib.hid (fun W => memory_any o ho r z x y hz W)
      obtain ⟨⟨f1, f2, f3, f4, f5⟩, e0, e1, e2, e3, e4, e5, e6, e7, e8, e9, e10, e11, e12⟩ := hf.next hbx.lt hb1' hb
      have hkn : (k : Int) < (n : Int) := by omega
      have hk100 : (k : Int) < 100 := by omega
      have B2 := BB.out.next (ba (Below.refl wr.heap.size wr) (.cells #[.int .i64 o.k, .int .i64 o.a, .int .u64 (o.da : Int), .int .u32 (o.dn : Int), .int .i64 o.di, .int .i64 o.df, .string o.s, .int .i64 o.n, .int .i64 o.wr, .int .i64 o.eo, .bool o.ew, .int .i64 o.ef, .bool o.v] 39))
      have kO := Blk.new wr 39 #[.int .i64 o.k, .int .i64 o.a, .int .u64 (o.da : Int), .int .u32 (o.dn : Int), .int .i64 o.di, .int .i64 o.df, .string o.s, .int .i64 o.n, .int .i64 o.wr, .int .i64 o.eo, .bool o.ew, .int .i64 o.ef, .bool o.v]
      obtain ⟨W1, hW1⟩ : ∃ W1, wr.alloc (.cells #[.int .i64 o.k, .int .i64 o.a, .int .u64 (o.da : Int), .int .u32 (o.dn : Int), .int .i64 o.di, .int .i64 o.df, .string o.s, .int .i64 o.n, .int .i64 o.wr, .int .i64 o.eo, .bool o.ew, .int .i64 o.ef, .bool o.v] 39) = W1 := ⟨_, rfl⟩
      obtain ⟨O, hO⟩ : ∃ O, wr.heap.size = O := ⟨_, rfl⟩
      rw [hW1] at B2 kO
      rw [hO] at kO
      have HW1 := Lib.hid hW1
      obtain ⟨⟨f1', f2', f3', f4', f5'⟩, -⟩ := hf.next hbx.lt hb1' B2.below
      have o0 := kO.cell 0
      have o1 := kO.cell 1
      have o2 := kO.cell 2
      have o3 := kO.cell 3
      have o4 := kO.cell 4
      have o5 := kO.cell 5
      have o6 := kO.cell 6
      have o7 := kO.cell 7
      have o8 := kO.cell 8
      have o9 := kO.cell 9
      have o10 := kO.cell 10
      have o11 := kO.cell 11
      have o12 := kO.cell 12
      simp only [List.getElem?_toArray, List.getElem?_cons_zero, List.getElem?_cons_succ] at o0 o1 o2 o3 o4 o5 o6 o7 o8 o9 o10 o11 o12
      have ltO := kO.lt
      have HK := Lib.hid kO
      have HB2 := Lib.hid B2
      clear hcs hbk hb hW1 kO B2 hf
      go_wp2_with (rw [HW1.out])
      try rw [hO]
      go_wp2_with fail
      refine (HM.out _).mono ?_
      rintro e w2 ⟨pa, ps, pis, rfl, hps, hq⟩
      have B3 := Lib.hid (HB2.out.next hq)
      have K3 := Lib.hid (HK.out.same (hq.block _ HK.out.lt))
      have hps : ps.size ≤ maxLen := by unfold maxLen; omega
      clear hq HB2 HK HM f1 f2 f3 f4 f5 f1' f2' f3' f4' f5' e0 e1 e2 e3 e4 e5 e6 e7 e8 e9 e10 e11 e12 o0 o1 o2 o3 o4 o5 o6 o7 o8 o9 o10 o11 o12 ltO BB c5 hO
      go_upto_if 64 with fail
      go_cut [] from 32 to 217 (fun wx => ∃ (xs2 : List UInt8) (lg2 : List Acc), xs2.length = xs0.length ∧ q.Ok xs2.length ∧ lg2.length ≤ 2 * k + 1 ∧ Bo w0 gq g gb xs2 q gx gk xs2 q lg2 wx ∧ Blk wx O 39 #[.int .i64 o.k, .int .i64 o.a, .int .u64 (o.da : Int), .int .u32 (o.dn : Int), .int .i64 o.di, .int .i64 o.df, .string o.s, .int .i64 o.n, .int .i64 o.wr, .int .i64 o.eo, .bool o.ew, .int .i64 o.ef, .bool o.v])
      case first =>
        cases pis
        · go_wp2_with fail
          go_meet
          case rel => exact ⟨xs, lg, hx, hok, by omega, B3.out, K3.out⟩
        · go_wp2_with fail
          refine (B3.out.writeQ pa ps hps).mono ?_
          rintro e w4 ⟨⟨n4, rfl⟩, B4, f4⟩
          have K4 := Lib.hid (K3.out.far f4 (by decide) (by decide) (by decide) (by decide))
          obtain ⟨g1, g2, g3, g4, g5, g6, g7⟩ := B4.cells
          have B4 := Lib.hid B4
          clear f4 B3 K3
          go_wp2_with fail
          refine (B4.out.rwriteQ (by omega) pa ps).mono ?_
          rintro e w5 ⟨⟨n5, rfl⟩, lg5, hl5, B5, f5⟩
          have K5 := Lib.hid (K4.out.farD f5 (by decide) (by decide))
          have B5 := Lib.hid B5
          clear f5 B4 K4 g1 g2 g3 g4 g5 g6 g7
          go_wp2_with fail
          go_meet
          case rel => exact ⟨wrX xs pa ps, lg5, (wrX_length _ _ _).trans hx, by rw [wrX_length]; exact hok, by omega, B5.out, K5.out⟩
      case rest =>
        obtain ⟨xs2, lg2, hx2, hok2, hlg2, BB, KK⟩ := hcut
        clear B3 K3 hx hok hlg hps
        have BB := Lib.hid BB
        have k0 := KK.cell 0
        simp only [List.getElem?_toArray, List.getElem?_cons_zero] at k0
        have KK := Lib.hid KK
        go_upto_block 2 with fail
        go_cut [3, 4, 12, 13] from 32 to 217 (fun mp qp av bv wx => ∃ (gq' g' gb' : Nat) (xs3 : List UInt8) (q3 : Qs) (lg3 : List Acc) (E : Int), mp = .pointer (some ⟨g', 0, none⟩) ∧ qp = .pointer (some ⟨gq', 0, none⟩) ∧ av = .int .i64 E ∧ bv = .int .i64 E ∧ xs3.length = xs0.length ∧ q3.Ok xs3.length ∧ q3.since ≤ 40000 * (k + 1) ∧ lg3.length ≤ 2 * (k + 1) ∧ Bo w0 gq' g' gb' xs3 q3 gx gk xs3 q3 lg3 wx)
        case first =>
          by_cases h4 : o.k = 4
          · have q4 : (o.k == 4) = true := by simp [h4]
            as_aux_lemma =>
              clear h4
              obtain ⟨R, hR⟩ : ∃ R, nextC xs2 q = R := ⟨_, rfl⟩
              have hpl : R.1.parts.length ≤ 8192 := by rw [← hR]; have := next_parts xs2 q; omega
              have hN := nextC_ok hok2
              rw [hR] at hN
              obtain ⟨hN1, hN2⟩ := hN
              have d1 : (R.2.1 != R.2.1) = false := by simp
              have d2 : (R.2.2.1 != R.2.2.1) = false := by simp
              have HPL := Lib.hid hpl
              clear hpl
              go_wp2_with fail
              refine (BB.out.nextQ hok2 R hR).mono ?_
              rintro e w2 ⟨A4, cap4, rfl, own4, B2, -⟩
              have hwk := B2.below.size
              have hws := BB.out.below.size
              have k4 := Blk.new w2 51 #[.int .i64 (R.1.id : Int), .int .i64 (R.1.count : Int), .slice A4 R.1.parts.length cap4]
              have own4 := own4.alloc (.cells #[.int .i64 (R.1.id : Int), .int .i64 (R.1.count : Int), .slice A4 R.1.parts.length cap4] 51)
              have B3 := Lib.hid (B2.next (ba (Below.refl _ _) (.cells #[.int .i64 (R.1.id : Int), .int .i64 (R.1.count : Int), .slice A4 R.1.parts.length cap4] 51)))
              clear BB KK k0 B2
              go_wp2_with fail
              refine (B3.out.rnextQ hok2 R hR).mono ?_
              rintro e w6 ⟨A6, cap6, rfl, own6, B6, f6⟩
              have k6 := k4.farD f6 (by decide) (by decide)
              have own4 := own_farD own4 f6 (by decide) (by decide)
              have p6 := PtsAt.of_own (l := R.1.parts) own4
              have p7 := PtsAt.of_own (l := R.1.parts) own6
              have hb7 := ba (Below.refl _ w6) (.cells #[.int .i64 (R.1.id : Int), .int .i64 (R.1.count : Int), .slice A6 R.1.parts.length cap6] 51)
              have k7 := Blk.new w6 51 #[.int .i64 (R.1.id : Int), .int .i64 (R.1.count : Int), .slice A6 R.1.parts.length cap6]
              have p6 := Lib.hid (p6.below hb7)
              have p7 := Lib.hid (p7.below hb7)
              have k6 := k6.same (hb7.block _ k6.lt)
              have own7 := own_base (own4.alloc (.cells #[.int .i64 (R.1.id : Int), .int .i64 (R.1.count : Int), .slice A6 R.1.parts.length cap6] 51)) hws
              have B7 := Lib.hid (B6.next hb7)
              have x0 := k6.cell 0
              have x1 := k6.cell 1
              have x2 := k6.cell 2
              have y0 := k7.cell 0
              have y1 := k7.cell 1
              have y2 := k7.cell 2
              simp only [List.getElem?_toArray, List.getElem?_cons_zero, List.getElem?_cons_succ] at x0 x1 x2 y0 y1 y2
              have hlt6 := k6.lt
              have HK6 := Lib.hid k6
              have HO7 := Lib.hid own7
              clear hb7 B6 B3 k4 own4 own6 f6 k7 k6 own7
              go_wp2_with fail
              refine (same_yes R.1 A4 A6 cap4 cap6 _ HPL.out p6.out p7.out).mono ?_
              rintro e w8 ⟨rfl, hq⟩
              have B8 := Lib.hid (B7.out.next hq)
              have k8 := HK6.out.same (hq.block _ HK6.out.lt)
              have own8 := own_same (w' := w8) HO7.out (fun k hk => hq.block k (HO7.out.lt k hk).2)
              have HK8 := Lib.hid k8
              have PR := Lib.hid (PtRow.of own8)
              clear hq B7 p6 p7 x0 x1 x2 y0 y1 y2 hlt6 HK6 HO7 own8 k8
              obtain ⟨T, hT⟩ : ∃ T, w2.heap.size = T := ⟨_, rfl⟩
              rw [hT] at hwk HK8 ⊢
              obtain ⟨L, hL⟩ : ∃ L, R.1.parts.length = L := ⟨_, rfl⟩
              have HP2 := HPL.out
              rw [hL] at HP2 HK8 PR
              have HP2 := Lib.hid HP2
              have HR2 := Lib.hid hR
              clear hT HPL d1 d2 hR
              clear hL
              go_wp2_with fail
              go_loopw [20] (fun jv wr => ∃ j : Nat, j ≤ L ∧ jv = .int .i64 j ∧ Bo w0 gq g gb xs2 R.2.2.2 gx gk xs2 R.2.2.2 lg2 wr ∧ Blk wr T 51 #[.int .i64 (R.1.id : Int), .int .i64 (R.1.count : Int), .slice A4 L cap4] ∧ PtRow w0.heap.size A4 L wr) (fun jv _ => L - (intOf jv).toNat)
              case atStart => exact ⟨0, Nat.zero_le _, rfl, B8.out, HK8.out, PR.out⟩
              case round =>
                obtain ⟨j, hj, rfl, B9, k9, pr⟩ := hrel
                clear B8 HK8 PR
                have x2 := k9.cell 2
                simp only [List.getElem?_toArray, List.getElem?_cons_zero, List.getElem?_cons_succ] at x2
                have ltT := k9.lt
                by_cases hjl : j < L
                · obtain ⟨gl, cur, rfl, hgB, kb, hcs⟩ := pr (by omega)
                  have hjL : (j : Int) < (L : Int) := by omega
                  have hpl := HP2.out
                  have HJ := Lib.hid (show j + 1 ≤ L ∧ j + 1 ≤ 8192 by omega)
                  clear hpl
                  obtain ⟨u0, hu0⟩ : ∃ u, cur[j * 3]? = some u := ⟨_, Array.getElem?_eq_getElem (by omega)⟩
                  obtain ⟨u1, hu1⟩ : ∃ u, cur[j * 3 + 1]? = some u := ⟨_, Array.getElem?_eq_getElem (by omega)⟩
                  obtain ⟨u2, hu2⟩ : ∃ u, cur[j * 3 + 2]? = some u := ⟨_, Array.getElem?_eq_getElem (by omega)⟩
                  have y0 := (kb.cell (j * 3)).trans hu0
                  have y1 := (kb.cell (j * 3 + 1)).trans hu1
                  have y2 := (kb.cell (j * 3 + 2)).trans hu2
                  have z0 := kb.frozen (j * 3)
                  have z1 := kb.frozen (j * 3 + 1)
                  have z2 := kb.frozen (j * 3 + 2)
                  have ltg := kb.lt
                  have hne : T ≠ gl := k9.ne kb (by decide)
                  have kb1 := kb.put (j * 3) (.int .i64 0)
                  have kb2 := kb1.put (j * 3 + 1) (.int .i64 0)
                  have kb3 := kb2.put (j * 3 + 2) (.bool false)
                  have k12 := ((k9.other (k := gl) hne (j * 3) (.int .i64 0)).other (k := gl) hne (j * 3 + 1) (.int .i64 0)).other (k := gl) hne (j * 3 + 2) (.bool false)
                  have B12 := ((B9.put kb hgB (by decide) (by decide) (by decide) (by decide) (by decide) (by decide) (j * 3) (.int .i64 0)).put kb1 hgB (by decide) (by decide) (by decide) (by decide) (by decide) (by decide) (j * 3 + 1) (.int .i64 0)).put kb2 hgB (by decide) (by decide) (by decide) (by decide) (by decide) (by decide) (j * 3 + 2) (.bool false)
                  have hcz : L * 3 ≤ (((cur.setIfInBounds (j * 3) (.int .i64 0)).setIfInBounds (j * 3 + 1) (.int .i64 0)).setIfInBounds (j * 3 + 2) (.bool false)).size := by simpa using hcs
                  have HB12 := Lib.hid B12
                  have HK12 := Lib.hid k12
                  have HKB := Lib.hid kb3
                  have Hcz := Lib.hid hcz
                  have HgB := Lib.hid hgB
                  clear B9 k9 pr kb kb1 kb2 kb3 k12 B12 hcz hcs hu0 hu1 hu2 hgB
                  go_wp2_with fail
                  go_roundw
                  case rel => 
                    have hJ := HJ.out
                    exact ⟨j + 1, hJ.1, by go_num, HB12.out, HK12.out, fun _ => ⟨gl, _, rfl, HgB.out, HKB.out, Hcz.out⟩⟩
                  case measure =>
                    have hJ := HJ.out
                    simp [intOf]; omega
                · have hjL : ¬ (j : Int) < (L : Int) := by omega
                  have B9 := Lib.hid B9
                  go_wp2_with fail
                  go_meet
                  case rel => exact ⟨gq, g, gb, xs2, R.2.2.2, lg2, 0, rfl, rfl, rfl, rfl, hx2, hN1, by omega, by omega, B9.out⟩
          · have q4 : (o.k == 4) = false := by simp [h4]
            by_cases h5 : o.k = 5
            · have q5 : (o.k == 5) = true := by simp [h5]
              as_aux_lemma =>
                clear h4
                clear h5
                have HQ := hok2
                obtain ⟨rD, hrD⟩ : ∃ rD, doneC xs2 q o.di o.n o.wr = rD := ⟨_, rfl⟩
                have hD := doneC_ok hok2 o.di o.n o.wr
                rw [hrD] at hD
                obtain ⟨hD1, hD2, hD3⟩ := hD
                have k4 := KK.out.cell 4
                have k7 := KK.out.cell 7
                have k8 := KK.out.cell 8
                simp only [List.getElem?_toArray, List.getElem?_cons_zero, List.getElem?_cons_succ] at k4 k7 k8
                have ltO := KK.out.lt
                go_wp2_with fail
                refine (BB.out.doneQ hok2 (by omega) o.di o.n o.wr rD hrD).mono ?_
                rintro e w2 ⟨rfl, B2, f2⟩
                have K2 := KK.out.far f2 (by decide) (by decide) (by decide) (by decide)
                have k4 := K2.cell 4
                have k7 := K2.cell 7
                have k8 := K2.cell 8
                simp only [List.getElem?_toArray, List.getElem?_cons_zero, List.getElem?_cons_succ] at k4 k7 k8
                have ltO := K2.lt
                have B2 := Lib.hid B2
                clear f2 K2 BB KK
                go_wp2_with fail
                refine (B2.out.rdoneQ (by omega) hok2 (by omega) o.di o.n o.wr rD hrD).mono ?_
                rintro e w3 ⟨rfl, lg3, hl3, B3, -⟩
                have B3 := Lib.hid B3
                clear B2 k4 k7 k8 ltO k0
                go_wp2_with fail
                go_meet
                case rel => exact ⟨gq, g, gb, rD.2.1, rD.2.2, lg3, rD.1, rfl, rfl, rfl, rfl, hD1.trans hx2, by rw [hD1]; exact hD2, by omega, by omega, B3.out⟩
            · have q5 : (o.k == 5) = false := by simp [h5]
              by_cases h6 : o.k = 6
              · have q6 : (o.k == 6) = true := by simp [h6]
                as_aux_lemma =>
                  clear h4
                  clear h5
                  clear h6
                  obtain ⟨rT, hrT⟩ : ∃ rT, tellC xs2 q = rT := ⟨_, rfl⟩
                  have hT := tellC_ok (xs := xs2) hok2
                  rw [hrT] at hT
                  obtain ⟨hT1, hT2⟩ := hT
                  have c1 : (rT.1 != rT.1) = false := by simp
                  go_wp2_with fail
                  refine (BB.out.tellQ hok2 rT hrT).mono ?_
                  rintro e w2 ⟨rfl, B2, -⟩
                  have B2 := Lib.hid B2
                  clear BB KK k0
                  go_wp2_with fail
                  refine (B2.out.rtellQ hok2 rT hrT).mono ?_
                  rintro e w3 ⟨rfl, B3, -⟩
                  have B3 := Lib.hid B3
                  clear B2
                  go_wp2_with fail
                  go_meet
                  case rel => exact ⟨gq, g, gb, xs2, rT.2, lg2, 0, rfl, rfl, rfl, rfl, hx2, hT1, by omega, by omega, B3.out⟩
              · have q6 : (o.k == 6) = false := by simp [h6]
                by_cases h7 : o.k = 7
                · have q7 : (o.k == 7) = true := by simp [h7]
                  as_aux_lemma =>
                    clear h4
                    clear h5
                    clear h6
                    clear h7
                    obtain ⟨E, hE⟩ : ∃ E, askE q o.eo o.ef = E := ⟨_, rfl⟩
                    have hA1 := askX_length hok2 o.eo o.ef o.ew
                    obtain ⟨Y, hY⟩ : ∃ Y, askX xs2 q o.eo o.ew o.ef = Y := ⟨_, rfl⟩
                    have HAQ := BB.out.askQ hok2 o.eo o.ef o.ew
                    rw [hE, hY] at HAQ
                    rw [hY] at hA1
                    have k9 := KK.out.cell 9
                    have k10 := KK.out.cell 10
                    have k11 := KK.out.cell 11
                    simp only [List.getElem?_toArray, List.getElem?_cons_zero, List.getElem?_cons_succ] at k9 k10 k11
                    have ltO := KK.out.lt
                    have HAQ := Lib.hid HAQ
                    have HE := Lib.hid hE
                    have HY := Lib.hid hY
                    have Hl := Lib.hid hA1
                    clear hE hY hA1
                    go_wp2_with fail
                    refine HAQ.out.mono ?_
                    rintro e w2 ⟨rfl, B2, f2⟩
                    have K2 := KK.out.far f2 (by decide) (by decide) (by decide) (by decide)
                    have k9 := K2.cell 9
                    have k10 := K2.cell 10
                    have k11 := K2.cell 11
                    simp only [List.getElem?_toArray, List.getElem?_cons_zero, List.getElem?_cons_succ] at k9 k10 k11
                    have ltO := K2.lt
                    have HRQ := B2.raskQ (by omega) hok2 o.eo o.ef o.ew
                    rw [HE.out, HY.out] at HRQ
                    have HRQ := Lib.hid HRQ
                    clear f2 K2 BB KK B2 HAQ
                    go_wp2_with fail
                    refine HRQ.out.mono ?_
                    rintro e w3 ⟨rfl, lg3, hl3, B3, -⟩
                    have B3 := Lib.hid B3
                    clear HRQ k9 k10 k11 ltO k0
                    go_wp2_with fail
                    go_meet
                    case rel => exact ⟨gq, g, gb, Y, q, lg3, E, rfl, rfl, rfl, rfl, Hl.out.trans hx2, by rw [Hl.out]; exact hok2, by omega, by omega, B3.out⟩
                · have q7 : (o.k == 7) = false := by simp [h7]
                  by_cases h8 : o.k = 8
                  · have q8 : (o.k == 8) = true := by simp [h8]
                    as_aux_lemma =>
                      clear h4
                      clear h5
                      clear h6
                      clear h7
                      clear h8
                      go_wp2_with fail
                      refine BB.out.failQ.mono ?_
                      rintro e w2 ⟨rfl, B2, -⟩
                      obtain ⟨-, -, g3, -, g5, g6, -⟩ := B2.cells
                      have B3 := Lib.hid B2.rfail.1
                      clear BB KK B2 k0
                      go_wp2_with fail
                      go_meet
                      case rel => exact ⟨gq, g, gb, xs2, brk q, lg2, 0, rfl, rfl, rfl, rfl, hx2, brk_ok hok2, by show q.since ≤ _; omega, by omega, B3.out⟩
                  · have q8 : (o.k == 8) = false := by simp [h8]
                    by_cases h9 : o.k = 9
                    · have q9 : (o.k == 9) = true := by simp [h9]
                      as_aux_lemma =>
                        clear h4
                        clear h5
                        clear h6
                        clear h7
                        clear h8
                        clear h9
                        have hx64 : 8 ≤ xs2.length := by omega
                        have hN := nextC_ok hok2
                        go_wp2_with fail
                        refine BB.out.cloneM.mono ?_
                        rintro e w2 ⟨g2, gb2, lv2, rfl, hM2, hq2⟩
                        have HM2 := Lib.hid hM2
                        have Hq2 := Lib.hid hq2
                        clear hM2 hq2
                        go_wp2_with fail
                        refine (BB.out.cloneQ Hq2.out HM2.out).mono ?_
                        rintro e w3 ⟨rfl, T3⟩
                        generalize w2.heap.size = gn at T3 ⊢
                        have T3 := Lib.hid T3
                        clear HM2 Hq2 BB KK k0
                        go_wp2_with fail
                        refine (T3.out.nextQ hok2).mono ?_
                        rintro e w4 ⟨⟨v4, rfl⟩, T4⟩
                        have T4 := Lib.hid T4
                        clear T3
                        go_wp2_with fail
                        refine (T4.out.doneQ hN.1 (by have := hN.2; omega) 0 1 1).mono ?_
                        rintro e w5 ⟨⟨v5, rfl⟩, xo, qo, hxo, T5⟩
                        have T5 := Lib.hid T5
                        clear T4
                        go_wp2_with fail
                        refine T5.out.failQ.mono ?_
                        rintro e w6 ⟨⟨v6, rfl⟩, T6⟩
                        have T6 := Lib.hid T6
                        clear T5
                        go_wp2_with fail
                        refine (T6.out.storeQ 1818584692 (by decide) (by omega)).mono ?_
                        rintro e w7 ⟨⟨v7, rfl⟩, xo2, T7⟩
                        have B7 := Lib.hid T7.drop
                        clear T6 T7
                        go_wp2_with fail
                        go_meet
                        case rel => exact ⟨gn, g2, gb2, xs2, q, lg2, 0, rfl, rfl, rfl, rfl, hx2, hok2, by omega, by omega, B7.out⟩
                    · have q9 : (o.k == 9) = false := by simp [h9]
                      as_aux_lemma =>
                        clear h4
                        clear h5
                        clear h6
                        clear h7
                        clear h8
                        clear h9
                        go_wp2_with fail
                        go_meet
                        case rel => exact ⟨gq, g, gb, xs2, q, lg2, 0, rfl, rfl, rfl, rfl, hx2, hok2, by omega, by omega, BB.out⟩

        case rest =>
          obtain ⟨gq', g', gb', xs3, q3, lg3, E, rfl, rfl, rfl, rfl, hx3, hok3, hsi3, hlg3, BC⟩ := hcut
          clear BB KK k0 hx2 hok2 hlg2 hsi
          have BC := Lib.hid BC
          have c1 : (E != E) = false := by simp
          have c2 : (q3.broken != q3.broken) = false := by simp
          have c3 : ((q3.out : Int) != (q3.out : Int)) = false := by simp
          obtain ⟨g1, g2, g3, g4, -, g6, g7⟩ := BC.out.cells
          obtain ⟨S9, hS9⟩ : ∃ S : ByteArray, ⟨xs3.toArray⟩ = S := ⟨_, rfl⟩
          have H24 := Lib.hid (fun (j : Nat) => (BC.out.next (below_drewN (Below.refl _ _) j)).ow.imageQ)
          have H25 := Lib.hid (fun (j : Nat) => (BC.out.next (below_drewN (Below.refl _ _) j)).ow.brokenQ)
          have H26 := Lib.hid (fun (j : Nat) => (BC.out.next (below_drewN (Below.refl _ _) j)).ow.outQ)
          rw [hS9] at H24 g4
          clear hS9
          have Hhx := Lib.hid hx3
          clear hx3
          go_wp2_with fail
          go_quiet (first
            | ((go_at_call 24; exact Calls.quiet_of_same ((H24.out _).mono fun _ _ hh => ⟨hh.1, hh.2.symm⟩)))
            | ((go_at_call 25; exact Calls.quiet_of_same ((H25.out _).mono fun _ _ hh => ⟨hh.1, hh.2.symm⟩)))
            | ((go_at_call 26; exact Calls.quiet_of_same ((H26.out _).mono fun _ _ hh => ⟨hh.1, hh.2.symm⟩))))
          have B9 := Lib.hid (BC.out.next (below_drewN (Below.refl _ _) nq))
          clear H24 H25 H26 g1 g2 g3 g4 g6 g7 BC
          go_wp2_with fail
          go_roundw
          case rel => exact ⟨k + 1, gq', g', gb', xs3, q3, lg3, by omega, by omega, by go_num, rfl, rfl, Hhx.out, hok3, hsi3, hlg3, B9.out⟩
          case measure => simp [intOf]; omega

    · have B2 := BB.out
      by_cases l1 : k < n
      · have l2 : ¬ k < 100 := fun h => hlt ⟨l1, h⟩
        have l3 : (k : Int) < (n : Int) := by omega
        go_wp2_with fail
        refine (HF.out _).mono ?_
        rintro e w2 ⟨rfl, hq⟩
        have hq := b0 hb1.out (b0 B2.below hq)
        go_wp2_with fail
        go_ret
        exact ⟨rfl, hq⟩
      · have l3 : ¬ (k : Int) < (n : Int) := by omega
        go_wp2_with fail
        refine (HF.out _).mono ?_
        rintro e w2 ⟨rfl, hq⟩
        have hq := b0 hb1.out (b0 B2.below hq)
        go_wp2_with fail
        go_ret
        exact ⟨rfl, hq⟩

theorem does_all (b r z x y : Int) (A : Option Addr) (n c : Nat) (w : World) (hA : OpsAt A n w) :
    Calls Try.prog 3 #[.agg #[.int .i64 b, .int .i64 r, .int .i64 z, .int .i64 x, .int .i64 y, .slice A n c]] w fun e w' => e = .returned (.bool true) ∧ Below w.heap.size w w' := by
  cases hL : layB (List.replicate (bytesN b) 0) r z x y
  · exact does_none b r z x y A n c hL w
  · exact does_some b r z x y A n c hL w hA
end Go.Proofs.Ytoblemgeacllkaa
namespace Go.Proofs.Ytoblemgeacllkaa
open Go.Joins Go.ChangeShapes Go.WideShapes Go.ChangeAt Go.RowKit Go.Deep
open Go.ChangeMaps (open_string)


set_option maxRecDepth 100000 in
theorem devqDoes_lifted (os : Os) (started : os.Started) (H : Type) (enc : TypeId × Value → H) :
    ReturnsInHanded {} Try.checked os 3 .any (Rows.devqDoesSpec.pre6 enc Try.prog Try.f3 Rows.devqDoesRow.domain false) (Rows.devqDoesSpec.post enc Try.prog Try.f3 false true false false) := by
  have e : Try.f3.params.toList = [26] := by rw [Try.params3]
  refine law_of_walk (C := Try.checked) (tb := 4) H enc Try.own started (by kernel_rfl) Try.func3 Try.laidOut rfl rfl Try.underlying4 ?_ ?_
    (ChangeSpec.witness6 (enc := enc) (C := Try.checked) false ⟨#[], #[.agg #[.int .i64 0, .int .i64 0, .int .i64 0, .int .i64 0, .int .i64 0, .slice none 0 0]], []⟩ 8 (by kernel_rfl) (by kernel_rfl) (by kernel_rfl) (by kernel_rfl)) ?_
  · rw [e]
    intro t ht
    simp only [List.mem_cons, List.not_mem_nil, or_false] at ht
    rcases ht with rfl <;> exact ⟨by kernel_rfl, of_decide_eq_true (by kernel_rfl)⟩
  · intro ds hds
    rw [e] at hds
    match ds, hds with
    | [d0], _ => rfl
  · intro W base args ds p hval0 hA0 hsz0
    have hval : ∀ (j : Nat) t v, Try.f3.params[j]? = some t → args[j]? = some v → Value.okWide Try.prog W .any base t v := hval0
    have hA : DataW.TrodAll enc Try.prog W 0 (fun _ => true) true Try.f3.params.toList args.toList ds p := hA0
    have hsz : (DataW.weightsEach Try.prog Try.f3.params.toList ds).all (· ≤ reachBytes) = true := hsz0
    rw [Try.params3] at hA hval hsz
    obtain ⟨v0, d0, rfl, rfl, h0⟩ := trodAll_one hA
    obtain ⟨b0, r0, z0, x0, y0, A0, n0, c0, rfl, hA0, hn0⟩ := open_world (hval 0 26 v0 rfl rfl) h0
    exact does_all b0 r0 z0 x0 y0 A0 n0 c0 W hA0

theorem devqDoes_holds : Rows.DevqDoesSaid :=
  OpenClaim.holds_of_wide 3 Try.f3 rfl rfl rfl rfl rfl rfl rfl ⟨rfl, rfl, rfl, rfl, rfl⟩ rfl rfl rfl rfl rfl (by kernel_rfl) Try.func3 (by kernel_rfl)
    (of_decide_eq_true (by kernel_rfl)) (by unfold Func.isWrapper; first | (rw [if_pos (by decide +kernel)]; kernel_rfl) | (rw [if_neg (by decide +kernel)]; exact ⟨rfl, rfl⟩))
    (fun os started H enc _ => devqDoes_lifted os started H enc)
end Go.Proofs.Ytoblemgeacllkaa

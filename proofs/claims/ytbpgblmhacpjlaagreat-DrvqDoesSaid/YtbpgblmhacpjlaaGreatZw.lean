/-
  DrvqDoes holds: whatever is posted, reaped, asked and told, whatever stands in memory, in any order, each answer, all of memory, what is free and held is as the document says; no condition.
-/
import Derived.Test.YtbpgblmhacpjlaaGreatZt
import Derived.Deep.CutRange
import Derived.Deep.CutBlock
import Derived.Test.YtbpgblmhacpjlaaGreatSLaw
namespace Go.Proofs.YtbpgblmhacpjlaaGreat
open Go.RowKit

set_option maxRecDepth 100000 in
set_option maxHeartbeats 3200000 in
theorem does_none (b r z x y : Int) (A : Option Addr) (N c : Nat) (hL : layB (xs0 (bytesN b)) r z x y = false) (w : World) :
    Calls Tryz.prog 3 #[.agg #[.int .i64 b, .int .i64 r, .int .i64 z, .int .i64 x, .int .i64 y, .slice A N c]] w fun e w' => e = .returned (.bool true) ∧ Below w.heap.size w w' := by
  have HL := fun W => laid_v b r z x y A N c W
  unfold LaidP at HL
  simp only [hL, Bool.false_eq_true, if_false] at HL
  have HL := Lib.hid HL
  have HF := Lib.hid fixed_any
  have hb1 := ba (Below.refl w.heap.size w) (.cells #[.int .i64 b, .int .i64 r, .int .i64 z, .int .i64 x, .int .i64 y, .slice A N c] 26)
  clear hL
  go_enter Tryz.func3, Tryz.ntmps3
  go_wp2_with fail
  refine (HL.out _).mono ?_
  rintro e w1 ⟨p, rfl, hq⟩
  have hb2 := Lib.hid (b0 hb1 hq)
  clear hb1 hq HL
  go_wp2_with fail
  go_loopw [3, 4, 7] (fun mp qp iv wr => iv = .int .i64 0 ∧ qp = .pointer none ∧ wr = w1) (fun _ _ _ _ => 0)
  case atStart => exact ⟨rfl, rfl, rfl⟩
  case round =>
    obtain ⟨rfl, rfl, rfl⟩ := hrel
    go_wp2_with fail
    refine (HF.out _).mono ?_
    rintro e w2 ⟨rfl, hq⟩
    go_wp2_with fail
    go_ret
    exact ⟨rfl, b0 hb2.out hq⟩
set_option maxRecDepth 100000 in
set_option maxHeartbeats 25600000 in
theorem does_some (b r z x y : Int) (A : Option Addr) (N c : Nat) (hL : layB (xs0 (bytesN b)) r z x y = true) (w : World) (hA : OpsAt A N w) :
    Calls Tryz.prog 3 #[.agg #[.int .i64 b, .int .i64 r, .int .i64 z, .int .i64 x, .int .i64 y, .slice A N c]] w fun e w' => e = .returned (.bool true) ∧ Below w.heap.size w w' := by
  have HL := fun W => laid_v b r z x y A N c W
  unfold LaidP at HL
  simp only [hL, if_true] at HL
  have HL := Lib.hid HL
  have HF := Lib.hid fixed_any
  have hb1 := Lib.hid (ba (Below.refl w.heap.size w) (.cells #[.int .i64 b, .int .i64 r, .int .i64 z, .int .i64 x, .int .i64 y, .slice A N c] 26))
  have hok := newV_ok hL
  have hX := layX_length hL
  have hXb := bytesN_le b
  obtain ⟨e3, e4⟩ := newV_few hL
  have hbx := Blk.new w 26 #[.int .i64 b, .int .i64 r, .int .i64 z, .int .i64 x, .int .i64 y, .slice A N c]
  have hA1 := hA.far (Nat.le_refl _) (ba (Below.refl _ _) (.cells #[.int .i64 b, .int .i64 r, .int .i64 z, .int .i64 x, .int .i64 y, .slice A N c] 26))
  rw [← xs0_bytes b, ← hX] at hXb
  rw [← hX] at hok
  obtain ⟨X0, hX0⟩ : ∃ X, layX b r z x y = X := ⟨_, rfl⟩
  obtain ⟨q0, hQ⟩ : ∃ q, newV r z x y = q := ⟨_, rfl⟩
  rw [hX0, hQ] at HL
  rw [hX0, hQ] at hok
  rw [hX0] at hXb
  rw [hQ] at e3 e4
  have hI0 : Iv X0.length 0 4 X0 q0 := ⟨rfl, hok, by omega, e4, 0, 0, 0, rfl, by omega, by omega⟩
  have HI0 := Lib.hid hI0
  obtain ⟨B, hB⟩ : ∃ B, X0.length = B := ⟨_, rfl⟩
  rw [hB] at hXb HI0
  obtain ⟨hB1, hB2⟩ := hXb
  clear hA hX hX0 hL hQ hI0 e3 e4 hok hB
  go_enter Tryz.func3, Tryz.ntmps3
  go_wp2_with fail
  refine (HL.out _).mono ?_
  rintro e w1 ⟨g_0, gq_0, gk, gx, rfl, S1⟩
  obtain ⟨w0, hw0⟩ : ∃ w0, w.alloc (.cells #[.int .i64 b, .int .i64 r, .int .i64 z, .int .i64 x, .int .i64 y, .slice A N c] 26) = w0 := ⟨_, rfl⟩
  rw [hw0] at hb1 hbx hA1 S1
  have S1 := Lib.hid S1
  generalize w.heap.size = g0 at hbx ⊢
  clear hw0 HL
  go_wp2_with fail
  go_loopw [3, 4, 7] (fun mp qp iv wr => ∃ (k g gq n : Nat) (xs : List UInt8) (q : Vs), k ≤ 80 ∧ iv = .int .i64 k ∧ mp = .pointer (some ⟨g, 0, none⟩) ∧ qp = .pointer (some ⟨gq, 0, none⟩) ∧ Iv B k n xs q ∧ St (fun _ => False) w0 (stars [drvP g gq xs q, refP gk gx xs n q]) wr) (fun _ _ iv _ => 80 - (RowKit.intOf iv).toNat)
  case atStart => exact ⟨0, g_0, gq_0, 4, X0, q0, Nat.zero_le _, rfl, rfl, rfl, HI0.out, S1.out⟩
  case round =>
    obtain ⟨k, g, gq, n, xs, q, hk, rfl, rfl, rfl, hI, SS⟩ := hrel
    clear S1 HI0
    have SS := Lib.hid SS
    have hb := SS.out.law
    have hbk := hbx.same (hb.block _ hbx.lt)
    have c5 := hbk.cell 5
    simp only [List.getElem?_toArray, List.getElem?_cons_zero, List.getElem?_cons_succ] at c5
    obtain ⟨hn3, hs128, hsi⟩ := hI.room hB2 hk
    by_cases hlt : k < N ∧ k < 80
    · obtain ⟨l1, l2⟩ := hlt
      obtain ⟨b1, off, rfl, hb1', hcs⟩ := hA1 (by omega)
      obtain ⟨o, ho, hcs⟩ := hcs k l1
      have hcs : ∀ (j : Nat) (u : Value), o.cells[j]? = some u → wr.cell? ⟨b1, off + (k * 10 + j), none⟩ = some u := fun j u hu => (hb.cell (p := ⟨b1, off + (k * 10 + j), none⟩) hb1').trans (hcs j u hu)
      have i0 := hcs 0 _ rfl
      have i1 := hcs 1 _ rfl
      have i2 := hcs 2 _ rfl
      have i3 := hcs 3 _ rfl
      have i4 := hcs 4 _ rfl
      have i5 := hcs 5 _ rfl
      have i6 := hcs 6 _ rfl
      have i7 := hcs 7 _ rfl
      have i8 := hcs 8 _ rfl
      have i9 := hcs 9 _ rfl
      rw [show k * 10 + 0 = k * 10 + 0 from rfl, ← Nat.add_assoc] at i0
      rw [show k * 10 + 1 = k * 10 + 1 from rfl, ← Nat.add_assoc] at i1
      rw [show k * 10 + 2 = k * 10 + 2 from rfl, ← Nat.add_assoc] at i2
      rw [show k * 10 + 3 = k * 10 + 3 from rfl, ← Nat.add_assoc] at i3
      rw [show k * 10 + 4 = k * 10 + 4 from rfl, ← Nat.add_assoc] at i4
      rw [show k * 10 + 5 = k * 10 + 5 from rfl, ← Nat.add_assoc] at i5
      rw [show k * 10 + 6 = k * 10 + 6 from rfl, ← Nat.add_assoc] at i6
      rw [show k * 10 + 7 = k * 10 + 7 from rfl, ← Nat.add_assoc] at i7
      rw [show k * 10 + 8 = k * 10 + 8 from rfl, ← Nat.add_assoc] at i8
      rw [show k * 10 + 9 = k * 10 + 9 from rfl, ← Nat.add_assoc] at i9
      rw [Nat.add_zero] at i0
      have hkn : (k : Int) < (N : Int) := by omega
      have hk80 : (k : Int) < 80 := by omega
      have B2 := SS.out.push 36 #[.int .i64 o.k, .int .i64 o.a, .int .i64 o.id, .int .i64 o.n, .slice o.pA o.pl.length o.pc, .string o.s, .int .i64 o.eo, .bool o.ew, .int .i64 o.ef, .bool o.wr]
      obtain ⟨W1, hW1⟩ : ∃ W1, wr.alloc (.cells #[.int .i64 o.k, .int .i64 o.a, .int .i64 o.id, .int .i64 o.n, .slice o.pA o.pl.length o.pc, .string o.s, .int .i64 o.eo, .bool o.ew, .int .i64 o.ef, .bool o.wr] 36) = W1 := ⟨_, rfl⟩
      obtain ⟨O, hO⟩ : ∃ O, wr.heap.size = O := ⟨_, rfl⟩
      rw [hW1, hO] at B2
      obtain ⟨ltO, o0, o1, o2, o3, o4, o5, o6, o7, o8, o9⟩ := B2.op 0 (by simp) rfl
      have HW1 := Lib.hid hW1
      have Hk80 := Lib.hid hk80
      have HI := Lib.hid hI
      have B2 := Lib.hid B2
      clear hcs hbk hb hW1 SS hI
      go_upto_block 2 with (rw [HW1.out])
      try rw [hO]
      clear HW1 i0 i1 i2 i3 i4 i5 i6 i7 i8 i9 c5 hO
      go_cut [3, 4] from 34 to 229 (fun mp qp wx => ∃ (g' gq' n' : Nat) (xs' : List UInt8) (q' : Vs), mp = .pointer (some ⟨g', 0, none⟩) ∧ qp = .pointer (some ⟨gq', 0, none⟩) ∧ Iv B (k + 1) n' xs' q' ∧ St (fun _ => False) w0 (stars [drvP g' gq' xs' q', refP gk gx xs' n' q']) wx)
      case first =>
        by_cases h0 : o.k = 0
        · have q0 : (o.k == 0) = true := by simp [h0]
          as_aux_lemma =>
            clear h0
            have hl70 : (o.pl.take 70).length ≤ 70 := by rw [List.length_take]; omega
            have hP70 := ho.parts.take 70
            have hN70 : ∀ j (h : j < (o.pl.take 70).length), (o.pl.take 70)[j].n < 9223372036854775808 := fun j hj => by rw [List.getElem_take]; exact ho.fit j (by rw [List.length_take] at hj; omega)
            have HPV := fun W => parts_v o W w0 ho
            obtain ⟨ps, hps⟩ : ∃ ps, o.pl.take 70 = ps := ⟨_, rfl⟩
            rw [hps] at hl70 hP70 hN70 HPV
            obtain ⟨R, hR⟩ : ∃ R, postC xs q ps = R := ⟨_, rfl⟩
            have hI2 := HI.out.post ps
            rw [hR] at hI2
            have HPO := fun (W : World) (h : St (fun _ => False) w0 (stars [box O 36 #[.int .i64 o.k, .int .i64 o.a, .int .i64 o.id, .int .i64 o.n, .slice o.pA o.pl.length o.pc, .string o.s, .int .i64 o.eo, .bool o.ew, .int .i64 o.ef, .bool o.wr], drvP g gq xs q, refP gk gx xs n q]) W) => h.postOld 1 (by simp) rfl HI.out.ok hsi (cap := o.pc) hP70 (by omega) hN70 R hR
            have HPX := fun (W : World) (h : St (fun _ => False) w0 (stars [box O 36 #[.int .i64 o.k, .int .i64 o.a, .int .i64 o.id, .int .i64 o.n, .slice o.pA o.pl.length o.pc, .string o.s, .int .i64 o.eo, .bool o.ew, .int .i64 o.ef, .bool o.wr], drvP g gq R.2.2.1 R.2.2.2, refP gk gx xs n q]) W) => h.rpostOld 2 (by simp) rfl (by omega) HI.out.ok hsi (cap := o.pc) hP70 (by omega) R hR
            obtain ⟨L, hL⟩ : ∃ L, ps.length = L := ⟨_, rfl⟩
            rw [hL] at HPV HPO HPX
            have HPV := Lib.hid HPV
            have HPO := Lib.hid HPO
            have HPX := Lib.hid HPX
            have HI2 := Lib.hid hI2
            have d1 : (R.1 != R.1) = false := by simp
            have d2 : (R.2.1 != R.2.1) = false := by simp
            clear hI2 hN70 hP70 hl70 hps hL hR hn3 hs128 hsi
            go_wp2_with fail
            refine (HPV.out _).mono ?_
            rintro e w5 ⟨rfl, hb5⟩
            have H6 := Lib.hid (HPO.out _ (B2.out.below hb5))
            clear hb5 B2 o0 o1 o2 o3 o4 o5 o6 o7 o8 o9 ltO HPO
            go_wp2_with fail
            refine H6.out.mono ?_
            rintro e w6 ⟨rfl, S6⟩
            have S6 : St (fun _ => False) w0 (stars [box O 36 #[.int .i64 o.k, .int .i64 o.a, .int .i64 o.id, .int .i64 o.n, .slice o.pA o.pl.length o.pc, .string o.s, .int .i64 o.eo, .bool o.ew, .int .i64 o.ef, .bool o.wr], drvP g gq R.2.2.1 R.2.2.2, refP gk gx xs n q]) w6 := S6
            obtain ⟨ltO, o0, o1, o2, o3, o4, o5, o6, o7, o8, o9⟩ := S6.op 0 (by simp) rfl
            have S6 := Lib.hid S6
            clear H6
            go_wp2_with fail
            refine (HPV.out _).mono ?_
            rintro e w7 ⟨rfl, hb7⟩
            have H8 := Lib.hid (HPX.out _ (S6.out.below hb7))
            clear hb7 S6 o0 o1 o2 o3 o4 o5 o6 o7 o8 o9 ltO HPX HPV
            go_wp2_with fail
            refine H8.out.mono ?_
            rintro e w8 ⟨rfl, S8⟩
            have S8 : St (fun _ => False) w0 (stars [box O 36 #[.int .i64 o.k, .int .i64 o.a, .int .i64 o.id, .int .i64 o.n, .slice o.pA o.pl.length o.pc, .string o.s, .int .i64 o.eo, .bool o.ew, .int .i64 o.ef, .bool o.wr], drvP g gq R.2.2.1 R.2.2.2, refP gk gx R.2.2.1 (postN xs q ps n) R.2.2.2]) w8 := S8
            have S8 := Lib.hid S8
            clear H8
            go_wp2_with fail
            go_meet
            case rel => exact ⟨g, gq, _, _, _, rfl, rfl, HI2.out, S8.out.pop⟩
        · have q0 : (o.k == 0) = false := by simp [h0]
          by_cases h1 : o.k = 1
          · have q1 : (o.k == 1) = true := by simp [h1]
            as_aux_lemma =>
              clear h0
              clear h1
              obtain ⟨R, hR⟩ : ∃ R, reapC xs q = R := ⟨_, rfl⟩
              have hI2 := HI.out.reap
              rw [hR] at hI2
              have H1 := Lib.hid (B2.out.reap 1 (by simp) rfl HI.out.ok R hR)
              have HR := Lib.hid hR
              have HI2 := Lib.hid hI2
              have d1 : (R.1 != R.1) = false := by simp
              have d2 : (R.2.1 != R.2.1) = false := by simp
              have d3 : (R.2.2.1 != R.2.2.1) = false := by simp
              have d4 : (R.2.2.2.1 != R.2.2.2.1) = false := by simp
              clear hI2 hR hn3 hs128 hsi B2 o0 o1 o2 o3 o4 o5 o6 o7 o8 o9 ltO
              go_wp2_with fail
              refine H1.out.mono ?_
              rintro e w5 ⟨rfl, S5⟩
              have S5 : St (fun _ => False) w0 (stars [box O 36 #[.int .i64 o.k, .int .i64 o.a, .int .i64 o.id, .int .i64 o.n, .slice o.pA o.pl.length o.pc, .string o.s, .int .i64 o.eo, .bool o.ew, .int .i64 o.ef, .bool o.wr], drvP g gq xs R.2.2.2.2, refP gk gx xs n q]) w5 := S5
              have H2 := Lib.hid (S5.rreap 2 (by simp) rfl HI.out.ok R HR.out)
              clear H1 S5
              go_wp2_with fail
              refine H2.out.mono ?_
              rintro e w6 ⟨rfl, S6⟩
              have S6 : St (fun _ => False) w0 (stars [box O 36 #[.int .i64 o.k, .int .i64 o.a, .int .i64 o.id, .int .i64 o.n, .slice o.pA o.pl.length o.pc, .string o.s, .int .i64 o.eo, .bool o.ew, .int .i64 o.ef, .bool o.wr], drvP g gq xs R.2.2.2.2, refP gk gx xs n R.2.2.2.2]) w6 := S6
              have S6 := Lib.hid S6
              clear H2
              go_wp2_with fail
              go_meet
              case rel => exact ⟨g, gq, _, _, _, rfl, rfl, HI2.out, S6.out.pop⟩
          · have q1 : (o.k == 1) = false := by simp [h1]
            by_cases h2 : o.k = 2
            · have q2 : (o.k == 2) = true := by simp [h2]
              as_aux_lemma =>
                clear h0
                clear h1
                clear h2
                obtain ⟨t, ht, HU⟩ := used_v o q.bw w0 ho
                have ht2 : t.size ≤ maxLen := by unfold maxLen; omega
                obtain ⟨P1, v1⟩ : ∃ P1, IntKind.i64.wrap (16 * (q.ba : Int)) = P1 := ⟨_, rfl⟩
                obtain ⟨P2, v2⟩ : ∃ P2, IntKind.i64.wrap (r + P1) = P2 := ⟨_, rfl⟩
                obtain ⟨P3, v3⟩ : ∃ P3, IntKind.i64.wrap (P2 + 8) = P3 := ⟨_, rfl⟩
                have hxx := wrX_length xs P3 t
                have HI2 := Lib.hid (HI.out.other (m := n + 1) hxx (Nat.le_refl _))
                have hn4 : n ≤ 4000 := by omega
                have HWr := fun (W : World) (h : St (fun _ => False) w0 (stars [box O 36 #[.int .i64 o.k, .int .i64 o.a, .int .i64 o.id, .int .i64 o.n, .slice o.pA o.pl.length o.pc, .string o.s, .int .i64 o.eo, .bool o.ew, .int .i64 o.ef, .bool o.wr], drvP g gq xs q, refP gk gx xs n q]) W) => h.write 1 (by simp) rfl P3 t ht2
                have HXr := fun (W : World) (h : St (fun _ => False) w0 (stars [box O 36 #[.int .i64 o.k, .int .i64 o.a, .int .i64 o.id, .int .i64 o.n, .slice o.pA o.pl.length o.pc, .string o.s, .int .i64 o.eo, .bool o.ew, .int .i64 o.ef, .bool o.wr], drvP g gq (wrX xs P3 t) q, refP gk gx xs n q]) W) => h.rwrite 2 (by simp) rfl hn4 P3 t
                have X1 := DzS.of (r := r) hbx B2.out 0 2 (by simp) (by simp) rfl rfl
                obtain ⟨⟨c1, c2, c3, c4, -⟩, ⟨lt1, lt2, -⟩, -⟩ := X1
                have HU := Lib.hid HU
                have HWr := Lib.hid HWr
                have HXr := Lib.hid HXr
                clear hxx ht ht2 hn4 hn3 hs128 hsi
                go_upto_region 20 with fail
                go_quiet (fail)
                have B3 := B2.out.drewN nq
                obtain ⟨W2, hW2⟩ : ∃ W2, W1.drewN nq = W2 := ⟨_, rfl⟩
                rw [hW2] at B3 ⊢
                have B3 := Lib.hid B3
                clear B2 hW2 c1 c2 c3 c4 lt1 lt2 v1 v2 v3 o0 o1 o2 o3 o4 o5 o6 o7 o8 o9 ltO
                have X1 := Lib.hid (DzS.of (r := r) hbx B3.out.drew 0 2 (by simp) (by simp) rfl rfl)
                go_wp2_with fail
                go_region_held3 (fun W => (W.cell? ⟨g0, 1, none⟩ = some (.int .i64 r) ∧ W.cell? ⟨gx, 0, none⟩ = some (.pointer (some ⟨gk, 0, none⟩)) ∧ W.cell? ⟨gx, 7, none⟩ = some (.int .i64 (q.ba : Int)) ∧ W.cell? ⟨gx, 8, none⟩ = some (.bool q.bw) ∧ W.cell? ⟨O, 0, none⟩ = some (.int .i64 o.k) ∧ W.cell? ⟨O, 1, none⟩ = some (.int .i64 o.a) ∧ W.cell? ⟨O, 2, none⟩ = some (.int .i64 o.id) ∧ W.cell? ⟨O, 3, none⟩ = some (.int .i64 o.n) ∧ W.cell? ⟨O, 4, none⟩ = some (.slice o.pA o.pl.length o.pc) ∧ W.cell? ⟨O, 5, none⟩ = some (.string o.s) ∧ W.cell? ⟨O, 6, none⟩ = some (.int .i64 o.eo) ∧ W.cell? ⟨O, 7, none⟩ = some (.bool o.ew) ∧ W.cell? ⟨O, 8, none⟩ = some (.int .i64 o.ef) ∧ W.cell? ⟨O, 9, none⟩ = some (.bool o.wr)) ∧ (g0 < W.heap.size ∧ gx < W.heap.size ∧ O < W.heap.size) ∧ ∃ l, St (fun _ => False) w0 (stars l) W)
                  ((refine (_root_.id (α := DzS w0 g0 gx gk O r q o _) ?_); with_reducible (first | exact X1.out | exact Z2 | exact Z3)))
                  (first | (go_at_call 11; ((with_reducible refine (HU.out _).mono ?_); rintro e w5 ⟨rfl, hb5⟩; have Z2 := DzS.below X1.out hb5)) | (go_at_call 10; ((with_reducible refine (HWr.out _ (B3.out.drew.below hb5)).mono ?_); rintro e w6 ⟨rfl, S6⟩; have Z3 := DzS.of (r := r) hbx S6 0 2 (by simp) (by simp) rfl rfl)))
                have S6 : St (fun _ => False) w0 (stars [box O 36 #[.int .i64 o.k, .int .i64 o.a, .int .i64 o.id, .int .i64 o.n, .slice o.pA o.pl.length o.pc, .string o.s, .int .i64 o.eo, .bool o.ew, .int .i64 o.ef, .bool o.wr], drvP g gq (wrX xs P3 t) q, refP gk gx xs n q]) w6 := S6
                have S6 := Lib.hid S6
                clear X1 Z2 Z3 HWr B3 hb5
                have X1 := Lib.hid (DzS.of (r := r) hbx S6.out.drew 0 2 (by simp) (by simp) rfl rfl)
                go_wp2_with fail
                go_region_held3 (fun W => (W.cell? ⟨g0, 1, none⟩ = some (.int .i64 r) ∧ W.cell? ⟨gx, 0, none⟩ = some (.pointer (some ⟨gk, 0, none⟩)) ∧ W.cell? ⟨gx, 7, none⟩ = some (.int .i64 (q.ba : Int)) ∧ W.cell? ⟨gx, 8, none⟩ = some (.bool q.bw) ∧ W.cell? ⟨O, 0, none⟩ = some (.int .i64 o.k) ∧ W.cell? ⟨O, 1, none⟩ = some (.int .i64 o.a) ∧ W.cell? ⟨O, 2, none⟩ = some (.int .i64 o.id) ∧ W.cell? ⟨O, 3, none⟩ = some (.int .i64 o.n) ∧ W.cell? ⟨O, 4, none⟩ = some (.slice o.pA o.pl.length o.pc) ∧ W.cell? ⟨O, 5, none⟩ = some (.string o.s) ∧ W.cell? ⟨O, 6, none⟩ = some (.int .i64 o.eo) ∧ W.cell? ⟨O, 7, none⟩ = some (.bool o.ew) ∧ W.cell? ⟨O, 8, none⟩ = some (.int .i64 o.ef) ∧ W.cell? ⟨O, 9, none⟩ = some (.bool o.wr)) ∧ (g0 < W.heap.size ∧ gx < W.heap.size ∧ O < W.heap.size) ∧ ∃ l, St (fun _ => False) w0 (stars l) W)
                  ((refine (_root_.id (α := DzS w0 g0 gx gk O r q o _) ?_); with_reducible (first | exact X1.out | exact Z2 | exact Z3)))
                  (first | (go_at_call 11; ((with_reducible refine (HU.out _).mono ?_); rintro e w7 ⟨rfl, hb7⟩; have Z2 := DzS.below X1.out hb7)) | (go_at_call 12; ((with_reducible refine (HXr.out _ (S6.out.drew.below hb7)).mono ?_); rintro e w8 ⟨rfl, S8⟩; have Z3 := DzS.of (r := r) hbx S8 0 2 (by simp) (by simp) rfl rfl)))
                have S8 : St (fun _ => False) w0 (stars [box O 36 #[.int .i64 o.k, .int .i64 o.a, .int .i64 o.id, .int .i64 o.n, .slice o.pA o.pl.length o.pc, .string o.s, .int .i64 o.eo, .bool o.ew, .int .i64 o.ef, .bool o.wr], drvP g gq (wrX xs P3 t) q, refP gk gx (wrX xs P3 t) (n + 1) q]) w8 := S8
                have S8 := Lib.hid S8
                clear X1 Z2 Z3 HXr HU S6 hb7
                go_wp2_with fail
                go_meet
                case rel => exact ⟨g, gq, _, _, _, rfl, rfl, HI2.out, S8.out.pop⟩
            · have q2 : (o.k == 2) = false := by simp [h2]
              by_cases h3 : o.k = 3
              · have q3 : (o.k == 3) = true := by simp [h3]
                as_aux_lemma =>
                  clear h0
                  clear h1
                  clear h2
                  clear h3
                  obtain ⟨P, hP⟩ : ∃ P, bits .and .i64 o.a 4095 = P := ⟨_, rfl⟩
                  obtain ⟨M, hM, hM1, hM2⟩ : ∃ M : Nat, min (o.s.size : Int) 200 = (M : Int) ∧ M ≤ o.s.size ∧ M ≤ 200 := ⟨min o.s.size 200, by omega, by omega, by omega⟩
                  have v1 : (M : Int) ≤ (o.s.size : Int) := by omega
                  have v2 : ¬ ((o.s.size : Int) < (M : Int)) := by omega
                  have v3 : (0 : Int) ≤ (M : Int) := by omega
                  have v4 : ¬ ((M : Int) < 0) := by omega
                  obtain ⟨t, htt⟩ : ∃ t, o.s.extract 0 M = t := ⟨_, rfl⟩
                  have ht2 : t.size ≤ maxLen := by rw [← htt, ByteArray.size_extract]; unfold maxLen; omega
                  have hxx := wrX_length xs P t
                  have HI2 := Lib.hid (HI.out.other (m := n + 1) hxx (Nat.le_refl _))
                  have hn4 : n ≤ 4000 := by omega
                  have HWr := fun (W : World) (h : St (fun _ => False) w0 (stars [box O 36 #[.int .i64 o.k, .int .i64 o.a, .int .i64 o.id, .int .i64 o.n, .slice o.pA o.pl.length o.pc, .string o.s, .int .i64 o.eo, .bool o.ew, .int .i64 o.ef, .bool o.wr], drvP g gq xs q, refP gk gx xs n q]) W) => h.write 1 (by simp) rfl P t ht2
                  have HXr := fun (W : World) (h : St (fun _ => False) w0 (stars [box O 36 #[.int .i64 o.k, .int .i64 o.a, .int .i64 o.id, .int .i64 o.n, .slice o.pA o.pl.length o.pc, .string o.s, .int .i64 o.eo, .bool o.ew, .int .i64 o.ef, .bool o.wr], drvP g gq (wrX xs P t) q, refP gk gx xs n q]) W) => h.rwrite 2 (by simp) rfl hn4 P t
                  have HWr := Lib.hid HWr
                  have HXr := Lib.hid HXr
                  clear hxx ht2 hn4 hn3 hs128 hsi o0 o1 o2 o3 o4 o5 o6 o7 o8 o9 ltO
                  have X1 := Lib.hid (DzS.of (r := r) hbx B2.out.drew 0 2 (by simp) (by simp) rfl rfl)
                  go_wp2_with fail
                  go_region_held3 (fun W => (W.cell? ⟨g0, 1, none⟩ = some (.int .i64 r) ∧ W.cell? ⟨gx, 0, none⟩ = some (.pointer (some ⟨gk, 0, none⟩)) ∧ W.cell? ⟨gx, 7, none⟩ = some (.int .i64 (q.ba : Int)) ∧ W.cell? ⟨gx, 8, none⟩ = some (.bool q.bw) ∧ W.cell? ⟨O, 0, none⟩ = some (.int .i64 o.k) ∧ W.cell? ⟨O, 1, none⟩ = some (.int .i64 o.a) ∧ W.cell? ⟨O, 2, none⟩ = some (.int .i64 o.id) ∧ W.cell? ⟨O, 3, none⟩ = some (.int .i64 o.n) ∧ W.cell? ⟨O, 4, none⟩ = some (.slice o.pA o.pl.length o.pc) ∧ W.cell? ⟨O, 5, none⟩ = some (.string o.s) ∧ W.cell? ⟨O, 6, none⟩ = some (.int .i64 o.eo) ∧ W.cell? ⟨O, 7, none⟩ = some (.bool o.ew) ∧ W.cell? ⟨O, 8, none⟩ = some (.int .i64 o.ef) ∧ W.cell? ⟨O, 9, none⟩ = some (.bool o.wr)) ∧ (g0 < W.heap.size ∧ gx < W.heap.size ∧ O < W.heap.size) ∧ ∃ l, St (fun _ => False) w0 (stars l) W)
                    ((refine (_root_.id (α := DzS w0 g0 gx gk O r q o _) ?_); with_reducible (first | exact X1.out | exact Z2 | exact Z3)))
                    (first | (go_at_call 10; ((with_reducible refine (HWr.out _ B2.out.drew).mono ?_); rintro e w6 ⟨rfl, S6⟩; have Z3 := DzS.of (r := r) hbx S6 0 2 (by simp) (by simp) rfl rfl)))
                  have S6 : St (fun _ => False) w0 (stars [box O 36 #[.int .i64 o.k, .int .i64 o.a, .int .i64 o.id, .int .i64 o.n, .slice o.pA o.pl.length o.pc, .string o.s, .int .i64 o.eo, .bool o.ew, .int .i64 o.ef, .bool o.wr], drvP g gq (wrX xs P t) q, refP gk gx xs n q]) w6 := S6
                  have S6 := Lib.hid S6
                  clear X1 Z3 HWr B2
                  have X1 := Lib.hid (DzS.of (r := r) hbx S6.out.drew 0 2 (by simp) (by simp) rfl rfl)
                  go_wp2_with fail
                  go_region_held3 (fun W => (W.cell? ⟨g0, 1, none⟩ = some (.int .i64 r) ∧ W.cell? ⟨gx, 0, none⟩ = some (.pointer (some ⟨gk, 0, none⟩)) ∧ W.cell? ⟨gx, 7, none⟩ = some (.int .i64 (q.ba : Int)) ∧ W.cell? ⟨gx, 8, none⟩ = some (.bool q.bw) ∧ W.cell? ⟨O, 0, none⟩ = some (.int .i64 o.k) ∧ W.cell? ⟨O, 1, none⟩ = some (.int .i64 o.a) ∧ W.cell? ⟨O, 2, none⟩ = some (.int .i64 o.id) ∧ W.cell? ⟨O, 3, none⟩ = some (.int .i64 o.n) ∧ W.cell? ⟨O, 4, none⟩ = some (.slice o.pA o.pl.length o.pc) ∧ W.cell? ⟨O, 5, none⟩ = some (.string o.s) ∧ W.cell? ⟨O, 6, none⟩ = some (.int .i64 o.eo) ∧ W.cell? ⟨O, 7, none⟩ = some (.bool o.ew) ∧ W.cell? ⟨O, 8, none⟩ = some (.int .i64 o.ef) ∧ W.cell? ⟨O, 9, none⟩ = some (.bool o.wr)) ∧ (g0 < W.heap.size ∧ gx < W.heap.size ∧ O < W.heap.size) ∧ ∃ l, St (fun _ => False) w0 (stars l) W)
                    ((refine (_root_.id (α := DzS w0 g0 gx gk O r q o _) ?_); with_reducible (first | exact X1.out | exact Z2 | exact Z3)))
                    (first | (go_at_call 12; ((with_reducible refine (HXr.out _ S6.out.drew).mono ?_); rintro e w8 ⟨rfl, S8⟩; have Z3 := DzS.of (r := r) hbx S8 0 2 (by simp) (by simp) rfl rfl)))
                  have S8 : St (fun _ => False) w0 (stars [box O 36 #[.int .i64 o.k, .int .i64 o.a, .int .i64 o.id, .int .i64 o.n, .slice o.pA o.pl.length o.pc, .string o.s, .int .i64 o.eo, .bool o.ew, .int .i64 o.ef, .bool o.wr], drvP g gq (wrX xs P t) q, refP gk gx (wrX xs P t) (n + 1) q]) w8 := S8
                  have S8 := Lib.hid S8
                  clear X1 Z3 HXr S6
                  go_wp2_with fail
                  go_meet
                  case rel => exact ⟨g, gq, _, _, _, rfl, rfl, HI2.out, S8.out.pop⟩
              · have q3 : (o.k == 3) = false := by simp [h3]
                by_cases h4 : o.k = 4
                · have q4 : (o.k == 4) = true := by simp [h4]
                  as_aux_lemma =>
                    clear h0
                    clear h1
                    clear h2
                    clear h3
                    clear h4
                    have H1 := Lib.hid (B2.out.tell 1 (by simp) rfl HI.out.ok)
                    have HI2 := Lib.hid HI.out.told
                    obtain ⟨T, hT⟩ : ∃ T, tellB xs q = T := ⟨_, rfl⟩
                    rw [hT] at H1
                    have HT := Lib.hid hT
                    have d1 : (T != T) = false := by simp
                    clear hT hn3 hs128 hsi B2 o0 o1 o2 o3 o4 o5 o6 o7 o8 o9 ltO
                    go_wp2_with fail
                    refine H1.out.mono ?_
                    rintro e w5 ⟨rfl, S5⟩
                    have S5 : St (fun _ => False) w0 (stars [box O 36 #[.int .i64 o.k, .int .i64 o.a, .int .i64 o.id, .int .i64 o.n, .slice o.pA o.pl.length o.pc, .string o.s, .int .i64 o.eo, .bool o.ew, .int .i64 o.ef, .bool o.wr], drvP g gq xs (toldQ q), refP gk gx xs n q]) w5 := S5
                    have H2 := S5.rtell 2 (by simp) rfl HI.out.ok
                    rw [HT.out] at H2
                    have H2 := Lib.hid H2
                    clear H1 S5
                    go_wp2_with fail
                    refine H2.out.mono ?_
                    rintro e w6 ⟨rfl, S6⟩
                    have S6 : St (fun _ => False) w0 (stars [box O 36 #[.int .i64 o.k, .int .i64 o.a, .int .i64 o.id, .int .i64 o.n, .slice o.pA o.pl.length o.pc, .string o.s, .int .i64 o.eo, .bool o.ew, .int .i64 o.ef, .bool o.wr], drvP g gq xs (toldQ q), refP gk gx xs n (toldQ q)]) w6 := S6
                    have S6 := Lib.hid S6
                    clear H2
                    go_wp2_with fail
                    go_meet
                    case rel => exact ⟨g, gq, _, _, _, rfl, rfl, HI2.out, S6.out.pop⟩
                · have q4 : (o.k == 4) = false := by simp [h4]
                  by_cases h5 : o.k = 5
                  · have q5 : (o.k == 5) = true := by simp [h5]
                    as_aux_lemma =>
                      clear h0
                      clear h1
                      clear h2
                      clear h3
                      clear h4
                      clear h5
                      have H1 := B2.out.ask 1 (by simp) rfl HI.out.ok o.eo o.ef o.ew
                      have hlY := askX_length HI.out.ok o.eo o.ef o.ew
                      obtain ⟨Y, hY⟩ : ∃ Y, askX xs q o.eo o.ew o.ef = Y := ⟨_, rfl⟩
                      obtain ⟨E, hE⟩ : ∃ E, Sp.buE o.eo o.ef = E := ⟨_, rfl⟩
                      rw [hY] at H1 hlY
                      rw [hE] at H1
                      have H1 := Lib.hid H1
                      have HI2 := Lib.hid (HI.out.other (m := n + 1) hlY (Nat.le_refl _))
                      have HY := Lib.hid (And.intro hY hE)
                      have d1 : (E != E) = false := by simp
                      have hn4 : n ≤ 4000 := by omega
                      clear hY hE hlY hn3 hs128 hsi B2
                      go_wp2_with fail
                      refine H1.out.mono ?_
                      rintro e w5 ⟨rfl, S5⟩
                      have S5 : St (fun _ => False) w0 (stars [box O 36 #[.int .i64 o.k, .int .i64 o.a, .int .i64 o.id, .int .i64 o.n, .slice o.pA o.pl.length o.pc, .string o.s, .int .i64 o.eo, .bool o.ew, .int .i64 o.ef, .bool o.wr], drvP g gq Y q, refP gk gx xs n q]) w5 := S5
                      clear o0 o1 o2 o3 o4 o5 o6 o7 o8 o9 ltO
                      obtain ⟨ltO, o0, o1, o2, o3, o4, o5, o6, o7, o8, o9⟩ := S5.op 0 (by simp) rfl
                      have H2 := S5.rask 2 (by simp) rfl hn4 HI.out.ok o.eo o.ef o.ew
                      rw [HY.out.1, HY.out.2] at H2
                      have H2 := Lib.hid H2
                      clear H1 S5 hn4
                      go_wp2_with fail
                      refine H2.out.mono ?_
                      rintro e w6 ⟨rfl, S6⟩
                      have S6 : St (fun _ => False) w0 (stars [box O 36 #[.int .i64 o.k, .int .i64 o.a, .int .i64 o.id, .int .i64 o.n, .slice o.pA o.pl.length o.pc, .string o.s, .int .i64 o.eo, .bool o.ew, .int .i64 o.ef, .bool o.wr], drvP g gq Y q, refP gk gx Y (n + 1) q]) w6 := S6
                      have S6 := Lib.hid S6
                      clear H2 o0 o1 o2 o3 o4 o5 o6 o7 o8 o9 ltO
                      go_wp2_with fail
                      go_meet
                      case rel => exact ⟨g, gq, _, _, _, rfl, rfl, HI2.out, S6.out.pop⟩
                  · have q5 : (o.k == 5) = false := by simp [h5]
                    by_cases h6 : o.k = 6
                    · have q6 : (o.k == 6) = true := by simp [h6]
                      as_aux_lemma =>
                        clear h0
                        clear h1
                        clear h2
                        clear h3
                        clear h4
                        clear h5
                        clear h6
                        have hx8 : 8 ≤ xs.length := by rw [HI.out.len]; omega
                        have H1 := B2.out.clone 1 (by simp) rfl
                        unfold MadeM' at H1
                        have H1 := Lib.hid H1
                        obtain ⟨R, hR⟩ : ∃ R, postC xs q [⟨0, 1, false⟩] = R := ⟨_, rfl⟩
                        have hok2 := postC_ok HI.out.ok [⟨0, 1, false⟩]
                        rw [hR] at hok2
                        obtain ⟨R2, hR2⟩ : ∃ R2, reapC R.2.2.1 R.2.2.2 = R2 := ⟨_, rfl⟩
                        have hok3 : R.2.2.2.Ok R.2.2.1.length := by rw [hok2.1]; exact hok2.2
                        have HR := Lib.hid hR
                        have HR2 := Lib.hid hR2
                        have Hok := Lib.hid (And.intro hok3 (show 8 ≤ R.2.2.1.length by rw [hok2.1]; exact hx8))
                        have HI2 := Lib.hid (HI.out.other (m := n) (ys := xs) rfl (by omega))
                        clear hx8 hR hR2 hok2 hok3 hn3 hs128 o0 o1 o2 o3 o4 o5 o6 o7 o8 o9 ltO
                        go_wp2_with fail
                        refine H1.out.mono ?_
                        rintro e w5 ⟨g2, F5, rfl, hM5, hF5, hb5⟩
                        have H2 := (B2.out.below hb5).cloneQ 1 (by simp) rfl g2
                        unfold CloneD at H2
                        have H2 := Lib.hid H2
                        have P5 := Lib.hid (And.intro hM5 (And.intro hF5 hb5))
                        clear H1 hM5 hF5 hb5
                        go_wp2_with fail
                        refine H2.out.mono ?_
                        rintro e w6 ⟨gq2, F6, rfl, hD6, hF6, hb6⟩
                        have S6 : St (fun _ => False) w0 (stars [drvP g2 gq2 xs q, box O 36 #[.int .i64 o.k, .int .i64 o.a, .int .i64 o.id, .int .i64 o.n, .slice o.pA o.pl.length o.pc, .string o.s, .int .i64 o.eo, .bool o.ew, .int .i64 o.ef, .bool o.wr], drvP g gq xs q, refP gk gx xs n q]) w6 := B2.out.cloned P5.out.1 P5.out.2.1 P5.out.2.2 hD6 hF6 hb6
                        have S7 : St (fun _ => False) w0 (stars [rowA 56 3 (.slice (some ⟨w6.heap.size, 0, none⟩) 1 1) 1 (iptCells [⟨0, 1, false⟩]), drvP g2 gq2 xs q, box O 36 #[.int .i64 o.k, .int .i64 o.a, .int .i64 o.id, .int .i64 o.n, .slice o.pA o.pl.length o.pc, .string o.s, .int .i64 o.eo, .bool o.ew, .int .i64 o.ef, .bool o.wr], drvP g gq xs q, refP gk gx xs n q]) (w6.alloc (.cells #[.int .i64 0, .int .i64 1, .bool false] 56)) := S6.pushRow 56 3 1 (iptCells [⟨0, 1, false⟩]) rfl (by decide) (by decide)
                        have r7 := S7.row 0 (by simp) rfl
                        have H3 := S7.post 3 (by simp) rfl HI.out.ok hsi (ps := [⟨0, 1, false⟩]) (cap := 1) (PsAt.of_own r7) (off_row (m := 0) (by simp) rfl (own_addr r7)) (by decide) (fun j hj => by
                          have e : j = 0 := by simpa using hj
                          subst e
                          show (1 : Int) < 9223372036854775808
                          decide) R HR.out
                        have H3 := Lib.hid H3
                        clear H2 P5 hD6 hF6 hb6 B2 S6 S7 r7
                        go_wp2_with fail
                        refine H3.out.mono ?_
                        rintro e w7 ⟨rfl, S8⟩
                        have S8 : St (fun _ => False) w0 (stars [rowA 56 3 (.slice (some ⟨w6.heap.size, 0, none⟩) 1 1) 1 (iptCells [⟨0, 1, false⟩]), drvP g2 gq2 xs q, box O 36 #[.int .i64 o.k, .int .i64 o.a, .int .i64 o.id, .int .i64 o.n, .slice o.pA o.pl.length o.pc, .string o.s, .int .i64 o.eo, .bool o.ew, .int .i64 o.ef, .bool o.wr], drvP g gq R.2.2.1 R.2.2.2, refP gk gx xs n q]) w7 := S8
                        have H4 := Lib.hid (S8.reap 3 (by simp) rfl Hok.out.1 R2 HR2.out)
                        clear H3 S8
                        go_wp2_with fail
                        refine H4.out.mono ?_
                        rintro e w8 ⟨rfl, S9⟩
                        have S9 : St (fun _ => False) w0 (stars [rowA 56 3 (.slice (some ⟨w6.heap.size, 0, none⟩) 1 1) 1 (iptCells [⟨0, 1, false⟩]), drvP g2 gq2 xs q, box O 36 #[.int .i64 o.k, .int .i64 o.a, .int .i64 o.id, .int .i64 o.n, .slice o.pA o.pl.length o.pc, .string o.s, .int .i64 o.eo, .bool o.ew, .int .i64 o.ef, .bool o.wr], drvP g gq R.2.2.1 R2.2.2.2.2, refP gk gx xs n q]) w8 := S9
                        have H5 := Lib.hid (S9.store 3 (by simp) rfl Hok.out.2)
                        clear H4 S9
                        go_wp2_with fail
                        refine H5.out.mono ?_
                        rintro e w9 ⟨rfl, A9, S10⟩
                        have S10 : St (fun _ => False) w0 (stars [rowA 56 3 (.slice (some ⟨w6.heap.size, 0, none⟩) 1 1) 1 (iptCells [⟨0, 1, false⟩]), drvP g2 gq2 xs q, box O 36 #[.int .i64 o.k, .int .i64 o.a, .int .i64 o.id, .int .i64 o.n, .slice o.pA o.pl.length o.pc, .string o.s, .int .i64 o.eo, .bool o.ew, .int .i64 o.ef, .bool o.wr], A9, refP gk gx xs n q]) w9 := S10
                        have S11 : St (fun _ => False) w0 (stars [drvP g2 gq2 xs q, refP gk gx xs n q]) w9 := ((S10.erase 3 (by simp)).erase 2 (by simp)).pop
                        have S11 := Lib.hid S11
                        clear H5 S10
                        go_wp2_with fail
                        go_meet
                        case rel => exact ⟨g2, gq2, _, _, _, rfl, rfl, HI2.out, S11.out⟩
                    · have q6 : (o.k == 6) = false := by simp [h6]
                      as_aux_lemma =>
                        clear h0
                        clear h1
                        clear h2
                        clear h3
                        clear h4
                        clear h5
                        clear h6
                        have HI2 := Lib.hid (HI.out.other (m := n) (ys := xs) rfl (by omega))
                        clear hn3 hs128 hsi o0 o1 o2 o3 o4 o5 o6 o7 o8 o9 ltO
                        go_wp2_with fail
                        go_meet
                        case rel => exact ⟨g, gq, _, _, _, rfl, rfl, HI2.out, B2.out.pop⟩
      case rest =>
        obtain ⟨g', gq', n', xs', q', rfl, rfl, hI', S3⟩ := hcut
        obtain ⟨-, hs', -⟩ := hI'.room hB2 (by omega)
        obtain ⟨F1, hA3, -⟩ := S3.all
        have HSm := Lib.hid (same_v hA3 hI'.ok hs')
        have S3 := Lib.hid S3
        have HI' := Lib.hid hI'
        clear hI' hs' hA3 B2 HI o0 o1 o2 o3 o4 o5 o6 o7 o8 o9 ltO
        go_wp2_with fail
        refine HSm.out.mono ?_
        rintro e w9 ⟨rfl, hq⟩
        have S9 := Lib.hid (S3.out.below hq)
        clear hq S3 HSm
        go_wp2_with fail
        go_roundw
        case rel => exact ⟨k + 1, g', gq', n', xs', q', by omega, by go_num, rfl, rfl, HI'.out, S9.out⟩
        case measure => simp [RowKit.intOf]; omega
    · have B2 := SS.out
      by_cases l1 : k < N
      · have l2 : ¬ k < 80 := fun h => hlt ⟨l1, h⟩
        have l3 : (k : Int) < (N : Int) := by omega
        have l4 : ¬ (k : Int) < 80 := by omega
        clear hI
        go_wp2_with fail
        refine (HF.out _).mono ?_
        rintro e w2 ⟨rfl, hq⟩
        have hq := (B2.below hq).law
        go_wp2_with fail
        go_ret
        exact ⟨rfl, b0 hb1.out hq⟩
      · have l3 : ¬ (k : Int) < (N : Int) := by omega
        clear hI
        go_wp2_with fail
        refine (HF.out _).mono ?_
        rintro e w2 ⟨rfl, hq⟩
        have hq := (B2.below hq).law
        go_wp2_with fail
        go_ret
        exact ⟨rfl, b0 hb1.out hq⟩
theorem does_all (b r z x y : Int) (A : Option Addr) (N c : Nat) (w : World) (hA : OpsAt A N w) :
    Calls Tryz.prog 3 #[.agg #[.int .i64 b, .int .i64 r, .int .i64 z, .int .i64 x, .int .i64 y, .slice A N c]] w fun e w' => e = .returned (.bool true) ∧ Below w.heap.size w w' := by
  cases hL : layB (xs0 (bytesN b)) r z x y
  · exact does_none b r z x y A N c hL w
  · exact does_some b r z x y A N c hL w hA
end Go.Proofs.YtbpgblmhacpjlaaGreat
namespace Go.Proofs.YtbpgblmhacpjlaaGreat
open Go.Joins Go.ChangeShapes Go.WideShapes Go.ChangeAt Go.RowKit Go.Deep
open Go.ChangeMaps (open_string)


set_option maxRecDepth 100000 in
theorem drvqDoes_lifted (os : Os) (started : os.Started) (H : Type) (enc : TypeId × Value → H) :
    ReturnsInHanded {} Tryz.checked os 3 .any (Rows.drvqDoesSpec.pre6 enc Tryz.prog Tryz.f3 Rows.drvqDoesRow.domain false) (Rows.drvqDoesSpec.post enc Tryz.prog Tryz.f3 false true false false) := by
  have e : Tryz.f3.params.toList = [26] := by rw [Tryz.params3]
  refine law_of_walk (C := Tryz.checked) (tb := 4) H enc Tryz.own started (by kernel_rfl) Tryz.func3 Tryz.laidOut rfl rfl Tryz.underlying4 ?_ ?_
    (ChangeSpec.witness6 (enc := enc) (C := Tryz.checked) false ⟨#[], #[.agg #[.int .i64 0, .int .i64 0, .int .i64 0, .int .i64 0, .int .i64 0, .slice none 0 0]], []⟩ 8 (by kernel_rfl) (by kernel_rfl) (by kernel_rfl) (by kernel_rfl)) ?_
  · rw [e]
    intro t ht
    simp only [List.mem_cons, List.not_mem_nil, or_false] at ht
    rcases ht with rfl <;> exact ⟨by kernel_rfl, of_decide_eq_true (by kernel_rfl)⟩
  · intro ds hds
    rw [e] at hds
    match ds, hds with
    | [d0], _ => rfl
  · intro W base args ds p hval0 hA0 hsz0
    have hval : ∀ (j : Nat) t v, Tryz.f3.params[j]? = some t → args[j]? = some v → Value.okWide Tryz.prog W .any base t v := hval0
    have hA : DataW.TrodAll enc Tryz.prog W 0 (fun _ => true) true Tryz.f3.params.toList args.toList ds p := hA0
    have hsz : (DataW.weightsEach Tryz.prog Tryz.f3.params.toList ds).all (· ≤ reachBytes) = true := hsz0
    rw [Tryz.params3] at hA hval hsz
    obtain ⟨v0, d0, rfl, rfl, h0⟩ := trodAll_one hA
    obtain ⟨b0, r0, z0, x0, y0, A0, n0, c0, rfl, hA0, hn0⟩ := open_world (hval 0 26 v0 rfl rfl) h0
    exact does_all b0 r0 z0 x0 y0 A0 n0 c0 W hA0

theorem drvqDoes_holds : Rows.DrvqDoesSaid :=
  OpenClaim.holds_of_wide 3 Tryz.f3 rfl rfl rfl rfl rfl rfl rfl ⟨rfl, rfl, rfl, rfl, rfl⟩ rfl rfl rfl rfl rfl (by kernel_rfl) Tryz.func3 (by kernel_rfl)
    (of_decide_eq_true (by kernel_rfl)) (by unfold Func.isWrapper; first | (rw [if_pos (by decide +kernel)]; kernel_rfl) | (rw [if_neg (by decide +kernel)]; exact ⟨rfl, rfl⟩))
    (fun os started H enc _ => drvqDoes_lifted os started H enc)
end Go.Proofs.YtbpgblmhacpjlaaGreat

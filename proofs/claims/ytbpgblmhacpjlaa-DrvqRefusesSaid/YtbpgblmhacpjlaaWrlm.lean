/-
  DrvqRefuses holds: whatever stands in memory, what is refused changes no byte, nothing that is held, and no place; what is reaped was held; no condition.
-/
import Derived.Test.YtbpgblmhacpjlaaRfm
import Derived.Deep.CutRange
import Derived.Deep.CutBlock
import Derived.Test.YtbpgblmhacpjlaaLaw
namespace Go.Proofs.Ytbpgblmhacpjlaa
open Go.RowKit

set_option maxRecDepth 100000 in
set_option maxHeartbeats 3200000 in
theorem refuses_none (b r z x y : Int) (A : Option Addr) (n c : Nat) (hL : layB (xs0 (bytesN b)) r z x y = false) (w : World) :
    Calls Try.prog 4 #[.agg #[.int .i64 b, .int .i64 r, .int .i64 z, .int .i64 x, .int .i64 y, .slice A n c]] w fun e w' => e = .returned (.bool true) ∧ Below w.heap.size w w' := by
  have HL := fun W => laid_v b r z x y A n c W
  unfold LaidP at HL
  simp only [hL, Bool.false_eq_true, if_false] at HL
  have HL := Lib.hid HL
  have HF := Lib.hid fixed_any
  have hb1 := ba (Below.refl w.heap.size w) (.cells #[.int .i64 b, .int .i64 r, .int .i64 z, .int .i64 x, .int .i64 y, .slice A n c] 59)
  clear hL
  go_enter Try.func4, Try.ntmps4
  go_wp2_with fail
  refine (HL.out _).mono ?_
  rintro e w1 ⟨p, rfl, hq⟩
  have hb2 := Lib.hid (b0 hb1 hq)
  clear hb1 hq HL
  go_wp2_with fail
  go_loopw [7] (fun iv wr => iv = .int .i64 0 ∧ wr = w1) (fun _ _ => 0)
  case atStart => exact ⟨rfl, rfl⟩
  case round =>
    obtain ⟨rfl, rfl⟩ := hrel
    go_wp2_with fail
    refine (HF.out _).mono ?_
    rintro e w2 ⟨rfl, hq⟩
    go_wp2_with fail
    go_ret
    exact ⟨rfl, b0 hb2.out hq⟩
set_option maxRecDepth 100000 in
set_option maxHeartbeats 25600000 in
theorem refuses_some (b r z x y : Int) (A : Option Addr) (n c : Nat) (hL : layB (xs0 (bytesN b)) r z x y = true) (w : World) (hA : OpsAt A n w) :
    Calls Try.prog 4 #[.agg #[.int .i64 b, .int .i64 r, .int .i64 z, .int .i64 x, .int .i64 y, .slice A n c]] w fun e w' => e = .returned (.bool true) ∧ Below w.heap.size w w' := by
  have HL := fun W => laid_v b r z x y A n c W
  unfold LaidP at HL
  simp only [hL, if_true] at HL
  have HL := Lib.hid HL
  have HF := Lib.hid fixed_any
  have hb1 := Lib.hid (ba (Below.refl w.heap.size w) (.cells #[.int .i64 b, .int .i64 r, .int .i64 z, .int .i64 x, .int .i64 y, .slice A n c] 59))
  have hok := newV_ok hL
  have hX := layX_length hL
  have hX2 := (bytesN_le b).2
  obtain ⟨e1, e2, e3⟩ := newV_at hL
  have hbx := Blk.new w 59 #[.int .i64 b, .int .i64 r, .int .i64 z, .int .i64 x, .int .i64 y, .slice A n c]
  have hA1 := hA.far (Nat.le_refl _) (ba (Below.refl _ _) (.cells #[.int .i64 b, .int .i64 r, .int .i64 z, .int .i64 x, .int .i64 y, .slice A n c] 59))
  rw [← xs0_bytes b, ← hX] at hX2
  rw [← hX] at hok
  obtain ⟨X0, hX0⟩ : ∃ X, layX b r z x y = X := ⟨_, rfl⟩
  obtain ⟨q0, hQ⟩ : ∃ q, newV r z x y = q := ⟨_, rfl⟩
  rw [hX0, hQ] at HL
  rw [hX0, hQ] at hok
  rw [hX0] at hX2
  rw [hQ] at e1 e2 e3
  clear hA hX hX0 hL hQ
  go_enter Try.func4, Try.ntmps4
  go_wp2_with fail
  refine (HL.out _).mono ?_
  rintro e w1 ⟨g, gq, gk, gx, rfl, S1⟩
  obtain ⟨w0, hw0⟩ : ∃ w0, w.alloc (.cells #[.int .i64 b, .int .i64 r, .int .i64 z, .int .i64 x, .int .i64 y, .slice A n c] 59) = w0 := ⟨_, rfl⟩
  have S1 : St (fun _ => False) (w.alloc (.cells #[.int .i64 b, .int .i64 r, .int .i64 z, .int .i64 x, .int .i64 y, .slice A n c] 59)) (stars [drvP g gq X0 q0]) w1 := S1.weak fun F e => first_of e
  rw [hw0] at hb1 hbx hA1 S1
  have S1 := Lib.hid S1
  generalize w.heap.size = g0 at hbx ⊢
  clear hw0 HL
  go_wp2_with fail
  go_loopw [7] (fun iv wr => ∃ (k : Nat) (xs : List UInt8) (q : Vs), k ≤ 80 ∧ iv = .int .i64 k ∧ xs.length ≤ 2048 ∧ q.Ok xs.length ∧ (q.ring : Int) = r ∧ (q.size : Int) = z ∧ q.since ≤ 64 * k ∧ St (fun _ => False) w0 (stars [drvP g gq xs q]) wr) (fun iv _ => 80 - (intOf iv).toNat)
  case atStart => exact ⟨0, X0, q0, Nat.zero_le _, rfl, hX2, hok, e1, e2, by rw [e3]; exact Nat.zero_le _, S1.out⟩
  case round =>
    obtain ⟨k, xs, q, hk, rfl, hx, hok, hr, hz, hsi, SS⟩ := hrel
    clear S1 e1 e2 e3
    have SS := Lib.hid SS
    have hb := SS.out.law
    have hbk := hbx.same (hb.block _ hbx.lt)
    have c5 := hbk.cell 5
    simp only [List.getElem?_toArray, List.getElem?_cons_zero, List.getElem?_cons_succ] at c5
    by_cases hlt : k < n ∧ k < 80
    · obtain ⟨l1, l2⟩ := hlt
      obtain ⟨b1, off, rfl, hb1', hcs⟩ := hA1 (by omega)
      obtain ⟨o, ho, hcs⟩ := hcs k l1
      have hcs : ∀ (j : Nat) (u : Value), o.cells[j]? = some u → wr.cell? ⟨b1, off + (k * 10 + j), none⟩ = some u := fun j u hu => (hb.cell (p := ⟨b1, off + (k * 10 + j), none⟩) hb1').trans (hcs j u hu)
      have i0 := hcs 0 _ rfl
      have i1 := hcs 1 _ rfl
      have i2 := hcs 2 _ rfl
      have i3 := hcs 3 _ rfl
      have i4 := hcs 4 _ rfl
      have i5 := hcs 5 _ rfl
      have i6 := hcs 6 _ rfl
      have i7 := hcs 7 _ rfl
      have i8 := hcs 8 _ rfl
      have i9 := hcs 9 _ rfl
      rw [show k * 10 + 0 = k * 10 + 0 from rfl, ← Nat.add_assoc] at i0
      rw [show k * 10 + 1 = k * 10 + 1 from rfl, ← Nat.add_assoc] at i1
      rw [show k * 10 + 2 = k * 10 + 2 from rfl, ← Nat.add_assoc] at i2
      rw [show k * 10 + 3 = k * 10 + 3 from rfl, ← Nat.add_assoc] at i3
      rw [show k * 10 + 4 = k * 10 + 4 from rfl, ← Nat.add_assoc] at i4
      rw [show k * 10 + 5 = k * 10 + 5 from rfl, ← Nat.add_assoc] at i5
      rw [show k * 10 + 6 = k * 10 + 6 from rfl, ← Nat.add_assoc] at i6
      rw [show k * 10 + 7 = k * 10 + 7 from rfl, ← Nat.add_assoc] at i7
      rw [show k * 10 + 8 = k * 10 + 8 from rfl, ← Nat.add_assoc] at i8
      rw [show k * 10 + 9 = k * 10 + 9 from rfl, ← Nat.add_assoc] at i9
      rw [Nat.add_zero] at i0
      have hkn : (k : Int) < (n : Int) := by omega
      have hk80 : (k : Int) < 80 := by omega
      have B2 := SS.out.push 66 #[.int .i64 o.k, .int .i64 o.a, .int .i64 o.id, .int .i64 o.n, .slice o.pA o.pl.length o.pc, .string o.s, .int .i64 o.eo, .bool o.ew, .int .i64 o.ef, .bool o.wr]
      have kO := Blk.new wr 66 #[.int .i64 o.k, .int .i64 o.a, .int .i64 o.id, .int .i64 o.n, .slice o.pA o.pl.length o.pc, .string o.s, .int .i64 o.eo, .bool o.ew, .int .i64 o.ef, .bool o.wr]
      obtain ⟨W1, hW1⟩ : ∃ W1, wr.alloc (.cells #[.int .i64 o.k, .int .i64 o.a, .int .i64 o.id, .int .i64 o.n, .slice o.pA o.pl.length o.pc, .string o.s, .int .i64 o.eo, .bool o.ew, .int .i64 o.ef, .bool o.wr] 66) = W1 := ⟨_, rfl⟩
      obtain ⟨O, hO⟩ : ∃ O, wr.heap.size = O := ⟨_, rfl⟩
      rw [hW1, hO] at B2
      rw [hW1, hO] at kO
      have HW1 := Lib.hid hW1
      have H1 := B2.image 1 (by simp) rfl
      obtain ⟨S9, hS9⟩ : ∃ S : ByteArray, ⟨xs.toArray⟩ = S := ⟨_, rfl⟩
      rw [hS9] at H1
      have H1 := Lib.hid H1
      have H2 := Lib.hid (B2.free 1 (by simp) rfl)
      have H3 := Lib.hid (B2.held 1 (by simp) rfl hok)
      have Hk80 := Lib.hid hk80
      have Hok := Lib.hid hok
      have B2 := Lib.hid B2
      have HS9 := Lib.hid hS9
      clear hcs hbk hb hW1 kO SS hS9
      go_wp2_with (rw [HW1.out])
      try rw [hO]
      clear hO
      go_wp2_with fail
      refine H1.out.mono ?_
      rintro e wx ⟨rfl, rfl⟩
      go_wp2_with fail
      refine H2.out.mono ?_
      rintro e wx ⟨rfl, rfl⟩
      go_wp2_with fail
      refine H3.out.mono ?_
      rintro e w2 ⟨A2, cap2, rfl, own2, hb2⟩
      have B3 := Lib.hid (B2.out.newRow hb2 own2)
      have H4 := Lib.hid (B3.out.back 2 (by simp) rfl)
      clear H1 H2 H3 B2 own2 hb2 HW1 i0 i1 i2 i3 i4 i5 i6 i7 i8 i9 c5
      go_wp2_with fail
      refine H4.out.mono ?_
      rintro e w3 ⟨rfl, hb3⟩
      have B4 := (B3.out.below hb3).push 69 #[.int .i64 (q.ba : Int), .bool q.bw]
      have RS := Lib.hid (RfS.of hbx B4 0 2 (by simp) (by simp) rfl rfl)
      have B4 := Lib.hid B4
      clear H4 B3 hb3
      obtain ⟨⟨c1, c2, c3, c4, o0, o1, o2, o3, o4, o5, o6, o7, o8, o9⟩, ⟨lt1, lt2, lt3⟩, -⟩ := RS.out
      have hr0 := Lib.hid hr
      have hz0 := Lib.hid hz
      clear hr hz
      by_cases h0 : o.k = 0
      · have q0 : (o.k == 0) = true := by simp [h0]
        as_aux_lemma =>
          clear h0
          have hl70 : (o.pl.take 70).length ≤ 70 := by rw [List.length_take]; omega
          have hP70 := ho.parts.take 70
          have HPV := Lib.hid (parts_v o (w3.alloc (.cells #[.int .i64 (q.ba : Int), .bool q.bw] 69)) w0 ho)
          rcases postC_cases Hok.out (o.pl.take 70) hl70 with ⟨E, E1, E2, hr⟩ | ⟨id, xs', q', hr, l64, lfr, hfr, hhl, hid, hxl, hok', hsi', hring', hsize'⟩
          · obtain ⟨L, hL⟩ : ∃ L, (o.pl.take 70).length = L := ⟨_, rfl⟩
            have HPO := fun (w : World) (h : St (fun _ => False) w0 (stars [box w3.heap.size 69 #[.int .i64 (q.ba : Int), .bool q.bw], rowA 3 1 (.slice A2 (heldL q.hs).length cap2) (heldL q.hs).length (heldV q.hs), box O 66 #[.int .i64 o.k, .int .i64 o.a, .int .i64 o.id, .int .i64 o.n, .slice o.pA o.pl.length o.pc, .string o.s, .int .i64 o.eo, .bool o.ew, .int .i64 o.ef, .bool o.wr], drvP g gq xs q]) w) => h.postOld 3 (by simp) rfl Hok.out (by omega) (cap := o.pc) hP70 (by omega) (fun j hj => by rw [List.getElem_take]; exact ho.fit j (by rw [List.length_take] at hj; omega)) _ hr
            rw [hL] at HPV HPO
            have HPO := Lib.hid HPO
            have E1 := Lib.hid E1
            have E2 := Lib.hid E2
            clear hr hP70 hl70
            go_wp2_with fail
            refine HPV.out.mono ?_
            rintro e w5 ⟨rfl, hb5⟩
            have H6 := Lib.hid (HPO.out _ (B4.out.below hb5))
            clear HPO HPV hb5 RS B4 c1 c2 c3 c4 o0 o1 o2 o3 o4 o5 o6 o7 o8 o9 lt1 lt2 lt3
            go_wp2_with fail
            refine H6.out.mono ?_
            rintro e w6 ⟨rfl, B6⟩
            have B6 : St (fun _ => False) w0 (stars [box w3.heap.size 69 #[.int .i64 (q.ba : Int), .bool q.bw], rowA 3 1 (.slice A2 (heldL q.hs).length cap2) (heldL q.hs).length (heldV q.hs), box O 66 #[.int .i64 o.k, .int .i64 o.a, .int .i64 o.id, .int .i64 o.n, .slice o.pA o.pl.length o.pc, .string o.s, .int .i64 o.eo, .bool o.ew, .int .i64 o.ef, .bool o.wr], drvP g gq xs q]) w6 := B6
            have H7 := B6.image 3 (by simp) rfl
            rw [HS9.out] at H7
            have H7 := Lib.hid H7
            have H8 := Lib.hid (B6.free 3 (by simp) rfl)
            have H9 := Lib.hid (B6.held 3 (by simp) rfl Hok.out)
            have B6 := Lib.hid B6
            have E1 := E1.out
            have E2 := E2.out
            clear H6
            go_wp2_with fail
            refine H7.out.mono ?_
            rintro e wx ⟨rfl, rfl⟩
            go_wp2_with fail
            refine H8.out.mono ?_
            rintro e wx ⟨rfl, rfl⟩
            go_wp2_with fail
            refine H9.out.mono ?_
            rintro e w7 ⟨A3, cap3, rfl, own3, hb7⟩
            have B7 := B6.out.newRow hb7 own3
            have H10 := (same_yes (heldI q.hs) A3 A2 cap3 cap2 w7 (by rw [heldI_length]; have := heldL_length q.hs; have := Hok.out.hl; have := Hok.out.r; omega) (Tab.of_own rfl (B7.row 0 (by simp) rfl)) (Tab.of_own rfl (B7.row 2 (by simp) rfl)))
            rw [heldI_length] at H10
            have H10 := Lib.hid H10
            have B7 := Lib.hid B7
            clear H7 H8 H9 own3 hb7 B6
            go_wp2_with fail
            refine H10.out.mono ?_
            rintro e w8 ⟨rfl, hb8⟩
            have B8 := Lib.hid (B7.out.below hb8)
            clear H10 B7 hb8
            go_wp2_with fail
            go_quiet (fail)
            go_wp2_with fail
            go_roundw
            case rel => exact ⟨k + 1, xs, q, by omega, by go_num, hx, Hok.out, hr0.out, hz0.out, by omega, St.pop (St.pop (St.pop (St.pop (B8.out.drewN _))))⟩
            case measure => have := Hk80.out; simp [intOf]; omega
          · have hpl : (o.pl.take 70).length = o.pl.length := by rw [List.length_take] at l64 ⊢; omega
            rw [hpl] at l64 lfr hfr hsi'
            have HPO := fun (w : World) (h : St (fun _ => False) w0 (stars [box w3.heap.size 69 #[.int .i64 (q.ba : Int), .bool q.bw], rowA 3 1 (.slice A2 (heldL q.hs).length cap2) (heldL q.hs).length (heldV q.hs), box O 66 #[.int .i64 o.k, .int .i64 o.a, .int .i64 o.id, .int .i64 o.n, .slice o.pA o.pl.length o.pc, .string o.s, .int .i64 o.eo, .bool o.ew, .int .i64 o.ef, .bool o.wr], drvP g gq xs q]) w) => h.postOld 3 (by simp) rfl Hok.out (by omega) (cap := o.pc) hP70 (by omega) (fun j hj => by rw [List.getElem_take]; exact ho.fit j (by rw [List.length_take] at hj; omega)) _ hr
            rw [hpl] at HPV HPO
            have HPO := Lib.hid HPO
            have hxl2 : xs'.length ≤ 2048 := by omega
            clear hr hP70 hl70
            go_wp2_with fail
            refine HPV.out.mono ?_
            rintro e w5 ⟨rfl, hb5⟩
            have H6 := Lib.hid (HPO.out _ (B4.out.below hb5))
            clear HPO HPV hb5 RS B4 c1 c2 c3 c4 o0 o1 o2 o3 o4 o5 o6 o7 o8 o9 lt1 lt2 lt3
            go_wp2_with fail
            refine H6.out.mono ?_
            rintro e w6 ⟨rfl, B6⟩
            have B6 : St (fun _ => False) w0 (stars [box w3.heap.size 69 #[.int .i64 (q.ba : Int), .bool q.bw], rowA 3 1 (.slice A2 (heldL q.hs).length cap2) (heldL q.hs).length (heldV q.hs), box O 66 #[.int .i64 o.k, .int .i64 o.a, .int .i64 o.id, .int .i64 o.n, .slice o.pA o.pl.length o.pc, .string o.s, .int .i64 o.eo, .bool o.ew, .int .i64 o.ef, .bool o.wr], drvP g gq xs' q']) w6 := B6
            have B6 := B6.drew
            obtain ⟨F, hF⟩ : ∃ F, q.free = F := ⟨_, rfl⟩
            obtain ⟨F2, hF2⟩ : ∃ F2, q'.free = F2 := ⟨_, rfl⟩
            obtain ⟨M, hM⟩ : ∃ M, (heldL q.hs).length = M := ⟨_, rfl⟩
            obtain ⟨M2, hM2⟩ : ∃ M2, (heldL q'.hs).length = M2 := ⟨_, rfl⟩
            have H8 := B6.free 3 (by simp) rfl
            rw [hF2] at H8
            have H9 := B6.held 3 (by simp) rfl hok'
            unfold HeldP at H9
            rw [hM2] at H9
            have X1 := Lib.hid (RfS.of hbx B6 0 2 (by simp) (by simp) rfl rfl)
            rw [hF2, hF] at hfr
            rw [hM2, hM] at hhl
            have fle := free_le Hok.out
            have mle := heldL_length q.hs
            have := Hok.out.hl
            have := Hok.out.s2
            rw [hF] at fle lfr
            rw [hM] at mle
            have v1 : IntKind.i64.wrap ((F : Int) - (o.pl.length : Int)) = (F2 : Int) := by rw [IntWalk.i64_in _ (by omega)]; omega
            have v2 : IntKind.i64.wrap ((M : Int) + 1) = (M2 : Int) := by rw [IntWalk.i64_in _ (by omega)]; omega
            have v3 : ((F2 : Int) != (F2 : Int)) = false := by simp
            have v4 : ((M2 : Int) != (M2 : Int)) = false := by simp
            have v5 : ¬ ((id : Int) < 0) := by omega
            have v6 : ¬ (z ≤ (id : Int)) := by have := hz0.out; omega
            have v6b : (id : Int) < z := by have := hz0.out; omega
            have v7 : IntKind.i64.wrap (M2 : Int) = (M2 : Int) := IntWalk.i64_in _ (by omega)
            have v8 : IntKind.i64.wrap (M : Int) = (M : Int) := IntWalk.i64_in _ (by omega)
            have v9 : IntKind.i64.wrap (o.pl.length : Int) = (o.pl.length : Int) := IntWalk.i64_in _ (by omega)
            have H8 := Lib.hid H8
            have H9 := Lib.hid H9
            have B6 := Lib.hid B6
            have Hr' := Lib.hid (show (q'.ring : Int) = r by rw [hring']; exact hr0.out)
            have Hz' := Lib.hid (show (q'.size : Int) = z by rw [hsize']; exact hz0.out)
            have Hs' := Lib.hid (show q'.since ≤ 64 * (k + 1) by omega)
            have Hok' := Lib.hid hok'
            rw [hF, hM]
            clear H6 fle mle hfr hhl hF hF2 hM2 hid hring' hsize' hsi' hok' lfr hpl hxl
            go_wp2_with fail
            go_region_held3 (fun W => (W.cell? ⟨g0, 1, none⟩ = some (.int .i64 r) ∧ W.cell? ⟨g0, 2, none⟩ = some (.int .i64 z) ∧ W.cell? ⟨w3.heap.size, 0, none⟩ = some (.int .i64 (q.ba : Int)) ∧ W.cell? ⟨w3.heap.size, 1, none⟩ = some (.bool q.bw) ∧ W.cell? ⟨O, 0, none⟩ = some (.int .i64 o.k) ∧ W.cell? ⟨O, 1, none⟩ = some (.int .i64 o.a) ∧ W.cell? ⟨O, 2, none⟩ = some (.int .i64 o.id) ∧ W.cell? ⟨O, 3, none⟩ = some (.int .i64 o.n) ∧ W.cell? ⟨O, 4, none⟩ = some (.slice o.pA o.pl.length o.pc) ∧ W.cell? ⟨O, 5, none⟩ = some (.string o.s) ∧ W.cell? ⟨O, 6, none⟩ = some (.int .i64 o.eo) ∧ W.cell? ⟨O, 7, none⟩ = some (.bool o.ew) ∧ W.cell? ⟨O, 8, none⟩ = some (.int .i64 o.ef) ∧ W.cell? ⟨O, 9, none⟩ = some (.bool o.wr)) ∧ (g0 < W.heap.size ∧ w3.heap.size < W.heap.size ∧ O < W.heap.size) ∧ ∃ l, St (fun _ => False) w0 (stars l) W)
              ((refine (_root_.id (α := RfS w0 g0 w3.heap.size O r z q o _) ?_); with_reducible (first | exact X1.out | exact Z2)))
              (first | (go_at_call 12; ((with_reducible refine H8.out.mono ?_); rintro e wf ⟨rfl, rfl⟩)) | (go_at_call 19; ((with_reducible refine H9.out.mono ?_); rintro e w7 ⟨A3, cap3, rfl, -, hb7⟩; have Z2 := RfS.below X1.out hb7)))
            have B7 := Lib.hid (B6.out.below hb7)
            clear Z2 X1 H8 H9 B6 hb7
            go_wp2_with fail
            go_roundw
            case rel => exact ⟨k + 1, xs', q', by omega, by go_num, hxl2, Hok'.out, Hr'.out, Hz'.out, Hs'.out, St.pop (St.pop (St.pop B7.out))⟩
            case measure => have := Hk80.out; simp [intOf]; omega
      · have q0 : (o.k == 0) = false := by simp [h0]
        by_cases h1 : o.k = 1
        · have q1 : (o.k == 1) = true := by simp [h1]
          as_aux_lemma =>
            clear h0
            clear h1
            have HRP := fun r hr => B4.out.reap 3 (by simp) rfl Hok.out r hr
            have hHl := heldL_length q.hs
            have h128 : (heldL q.hs).length ≤ 128 := by have := Hok.out.hl; have := Hok.out.r; omega
            rcases reapC_cases Hok.out with ⟨E, hr⟩ | ⟨id, m, q', hr, hmem, hhl, hok', hsi', hring', hsize'⟩
            · have HR1 := Lib.hid (HRP _ hr)
              clear HRP hr
              go_wp2_with fail
              refine HR1.out.mono ?_
              rintro e w5 ⟨rfl, S5⟩
              have S5 : St (fun _ => False) w0 (stars [box w3.heap.size 69 #[.int .i64 (q.ba : Int), .bool q.bw], rowA 3 1 (.slice A2 (heldL q.hs).length cap2) (heldL q.hs).length (heldV q.hs), box O 66 #[.int .i64 o.k, .int .i64 o.a, .int .i64 o.id, .int .i64 o.n, .slice o.pA o.pl.length o.pc, .string o.s, .int .i64 o.eo, .bool o.ew, .int .i64 o.ef, .bool o.wr], drvP g gq xs q]) w5 := S5
              have S5 := Lib.hid S5
              clear HR1 RS B4 c1 c2 c3 c4 o0 o1 o2 o3 o4 o5 o6 o7 o8 o9 lt1 lt2 lt3
              obtain ⟨M, hM⟩ : ∃ M, (heldL q.hs).length = M := ⟨_, rfl⟩
              have hMI : (heldI q.hs).length = M := by rw [heldI_length]; exact hM
              rw [hM] at S5 ⊢
              go_wp2_with fail
              go_loopw [19, 20] (fun hv jv wl => ∃ (j : Nat) (h : Bool), j ≤ M ∧ jv = .int .i64 (j : Int) ∧ hv = .bool h ∧ St (fun _ => False) w0 (stars [box w3.heap.size 69 #[.int .i64 (q.ba : Int), .bool q.bw], rowA 3 1 (.slice A2 M cap2) M (heldV q.hs), box O 66 #[.int .i64 o.k, .int .i64 o.a, .int .i64 o.id, .int .i64 o.n, .slice o.pA o.pl.length o.pc, .string o.s, .int .i64 o.eo, .bool o.ew, .int .i64 o.ef, .bool o.wr], drvP g gq xs q]) wl) (fun _ jv _ => M - (intOf jv).toNat)
              case atStart => exact ⟨0, false, Nat.zero_le _, rfl, rfl, S5.out⟩
              case round =>
                obtain ⟨j, h, hj, rfl, rfl, S6⟩ := hrel
                clear S5
                by_cases hjM : j < M
                · have q1 : (j : Int) < (M : Int) := by omega
                  have q2 : (0 : Int) ≤ (j : Int) := by omega
                  obtain ⟨b2, off2, X, rfl, hX, hc⟩ := (Tab.of_own hM.symm (S6.row 1 (by simp) rfl)).at j (by omega)
                  have HJ := Lib.hid hjM
                  cases h
                  · obtain ⟨v, hv⟩ : ∃ v, (X == 0) = v := ⟨_, rfl⟩
                    have S6 := Lib.hid S6
                    clear hX
                    go_wp2_with fail
                    go_roundw
                    case rel => exact ⟨j + 1, v, by have := HJ.out; omega, by go_num, by first | rfl | rw [hv], S6.out⟩
                    case measure => have := HJ.out; simp [intOf]; omega
                  · have S6 := Lib.hid S6
                    clear hX
                    go_wp2_with fail
                    go_roundw
                    case rel => exact ⟨j + 1, true, by have := HJ.out; omega, by go_num, rfl, S6.out⟩
                    case measure => have := HJ.out; simp [intOf]; omega
                · have q1 : ¬ (j : Int) < (M : Int) := by omega
                  have S7 := S6.drew
                  have H1 := S7.held 3 (by simp) rfl Hok.out
                  unfold HeldP at H1
                  rw [hM] at H1
                  have X1 := Lib.hid (RfS.of hbx S7 0 2 (by simp) (by simp) rfl rfl)
                  have HSM := fun A3 cap3 W (t1 : Tab A3 (heldI q.hs) W) (t2 : Tab A2 (heldI q.hs) W) => same_yes (heldI q.hs) A3 A2 cap3 cap2 W (by rw [hMI]; omega) t1 t2
                  rw [hMI] at HSM
                  have HSM := Lib.hid HSM
                  have H1 := Lib.hid H1
                  have S7 := Lib.hid S7
                  have HM := Lib.hid hM
                  have v4 : ((q.ba : Int) == (q.ba : Int)) = true := by simp
                  have v5 : (q.bw == q.bw) = true := by simp
                  have v6 : (S9.toList == S9.toList) = true := by simp
                  have S6 := Lib.hid S6
                  clear hM hMI
                  cases h
                  · go_wp2_with fail
                    refine wp_region_held_drew (S := (fun W => (W.cell? ⟨g0, 1, none⟩ = some (.int .i64 r) ∧ W.cell? ⟨g0, 2, none⟩ = some (.int .i64 z) ∧ W.cell? ⟨w3.heap.size, 0, none⟩ = some (.int .i64 (q.ba : Int)) ∧ W.cell? ⟨w3.heap.size, 1, none⟩ = some (.bool q.bw) ∧ W.cell? ⟨O, 0, none⟩ = some (.int .i64 o.k) ∧ W.cell? ⟨O, 1, none⟩ = some (.int .i64 o.a) ∧ W.cell? ⟨O, 2, none⟩ = some (.int .i64 o.id) ∧ W.cell? ⟨O, 3, none⟩ = some (.int .i64 o.n) ∧ W.cell? ⟨O, 4, none⟩ = some (.slice o.pA o.pl.length o.pc) ∧ W.cell? ⟨O, 5, none⟩ = some (.string o.s) ∧ W.cell? ⟨O, 6, none⟩ = some (.int .i64 o.eo) ∧ W.cell? ⟨O, 7, none⟩ = some (.bool o.ew) ∧ W.cell? ⟨O, 8, none⟩ = some (.int .i64 o.ef) ∧ W.cell? ⟨O, 9, none⟩ = some (.bool o.wr)) ∧ (g0 < W.heap.size ∧ w3.heap.size < W.heap.size ∧ O < W.heap.size) ∧ ∃ l, St (fun _ => False) w0 (stars l) W)) (by kernel_rfl) X1.out (fun hHeld => ?_)
                    refine wpAnyH_take (i := 0) (oi := { dst := some 150, op := Go.Op.move (Go.Operand.tmp 17), type := 4, pos := "law.go:292", after := #[], guard := none }) (v := ?_) rfl (by kernel_rfl) (by kernel_rfl) (by kernel_rfl) (fun _ _ _ h => h) (Or.inl ⟨by rfl, ?_⟩) hHeld ?_
                    rotate_left
                    · intro W hSw
                      try dsimp only at hSw
                      go_simp
                      try with_reducible rfl
                    try simp only [Act.put, List.setIfInBounds_toArray, List.set_cons_zero, List.set_cons_succ]
                    refine wpAnyH_take (i := 1) (oi := { dst := some 151, op := Go.Op.move (Go.Operand.tmp 19), type := 4, pos := "law.go:292", after := #[], guard := none }) (v := ?_) rfl (by kernel_rfl) (by kernel_rfl) (by kernel_rfl) (fun _ _ _ h => h) (Or.inl ⟨by rfl, ?_⟩) hHeld ?_
                    rotate_left
                    · intro W hSw
                      try dsimp only at hSw
                      go_simp
                      try with_reducible rfl
                    try simp only [Act.put, List.setIfInBounds_toArray, List.set_cons_zero, List.set_cons_succ]
                    refine wpAnyH_take (i := 2) (oi := { dst := some 152, op := Go.Op.binOp Go.BinOp.neq 4 (Go.Operand.tmp 150) (Go.Operand.tmp 151) 4, type := 4, pos := "law.go:292", after := #[{ on := 0, ground := Go.Ground.data }, { on := 1, ground := Go.Ground.data }], guard := none }) (v := ?_) rfl (by kernel_rfl) (by kernel_rfl) (by kernel_rfl) (fun _ _ _ h => h) (Or.inl ⟨by rfl, ?_⟩) hHeld ?_
                    rotate_left
                    · intro W hSw
                      try dsimp only at hSw
                      go_simp
                      try with_reducible rfl
                    try simp only [Act.put, List.setIfInBounds_toArray, List.set_cons_zero, List.set_cons_succ]
                    refine wpAnyH_take (i := 3) (oi := { dst := some 153, op := Go.Op.move (Go.Operand.tmp 152), type := 4, pos := "law.go:292", after := #[{ on := 2, ground := Go.Ground.data }], guard := none }) (v := ?_) rfl (by kernel_rfl) (by kernel_rfl) (by kernel_rfl) (fun _ _ _ h => h) (Or.inl ⟨by rfl, ?_⟩) hHeld ?_
                    rotate_left
                    · intro W hSw
                      try dsimp only at hSw
                      go_simp
                      try with_reducible rfl
                    try simp only [Act.put, List.setIfInBounds_toArray, List.set_cons_zero, List.set_cons_succ]
                    refine wpAnyH_take (i := 4) (oi := { dst := some 154, op := Go.Op.move (Go.Operand.tmp 17), type := 4, pos := "law.go:292", after := #[{ on := 3, ground := Go.Ground.guard }], guard := some (3, true) }) (v := undef) rfl (by kernel_rfl) (by kernel_rfl) (by kernel_rfl) (fun _ _ _ h => h) (Or.inr ⟨by rfl, rfl⟩) hHeld ?_
                    try simp only [Act.put, List.setIfInBounds_toArray, List.set_cons_zero, List.set_cons_succ]
                    refine wpAnyH_take (i := 5) (oi := { dst := some 155, op := Go.Op.pick (Go.Operand.tmp 153) (Go.Operand.tmp 154) (Go.Operand.const (Go.Value.bool false)), type := 4, pos := "law.go:292", after := #[{ on := 3, ground := Go.Ground.data }, { on := 4, ground := Go.Ground.data }], guard := none }) (v := ?_) rfl (by kernel_rfl) (by kernel_rfl) (by kernel_rfl) (fun _ _ _ h => h) (Or.inl ⟨by rfl, ?_⟩) hHeld ?_
                    rotate_left
                    · intro W hSw
                      try dsimp only at hSw
                      go_simp
                      try with_reducible rfl
                    try simp only [Act.put, List.setIfInBounds_toArray, List.set_cons_zero, List.set_cons_succ]
                    refine wpAnyH_take (i := 6) (oi := { dst := some 156, op := Go.Op.move (Go.Operand.tmp 155), type := 4, pos := "law.go:292", after := #[{ on := 5, ground := Go.Ground.data }, { on := 3, ground := Go.Ground.chain }], guard := none }) (v := ?_) rfl (by kernel_rfl) (by kernel_rfl) (by kernel_rfl) (fun _ _ _ h => h) (Or.inl ⟨by rfl, ?_⟩) hHeld ?_
                    rotate_left
                    · intro W hSw
                      try dsimp only at hSw
                      go_simp
                      try with_reducible rfl
                    try simp only [Act.put, List.setIfInBounds_toArray, List.set_cons_zero, List.set_cons_succ]
                    refine wpAnyH_take (i := 7) (oi := { dst := some 157, op := Go.Op.move (Go.Operand.tmp 17), type := 4, pos := "law.go:292", after := #[{ on := 6, ground := Go.Ground.guard }], guard := some (6, false) }) (v := ?_) rfl (by kernel_rfl) (by kernel_rfl) (by kernel_rfl) (fun _ _ _ h => h) (Or.inl ⟨by rfl, ?_⟩) hHeld ?_
                    rotate_left
                    · intro W hSw
                      try dsimp only at hSw
                      go_simp
                      try with_reducible rfl
                    try simp only [Act.put, List.setIfInBounds_toArray, List.set_cons_zero, List.set_cons_succ]
                    refine wpAnyH_take (i := 8) (oi := { dst := some 158, op := Go.Op.move (Go.Operand.tmp 157), type := 4, pos := "law.go:292", after := #[{ on := 7, ground := Go.Ground.data }, { on := 6, ground := Go.Ground.chain }, { on := 6, ground := Go.Ground.guard }], guard := some (6, false) }) (v := ?_) rfl (by kernel_rfl) (by kernel_rfl) (by kernel_rfl) (fun _ _ _ h => h) (Or.inl ⟨by rfl, ?_⟩) hHeld ?_
                    rotate_left
                    · intro W hSw
                      try dsimp only at hSw
                      go_simp
                      try with_reducible rfl
                    try simp only [Act.put, List.setIfInBounds_toArray, List.set_cons_zero, List.set_cons_succ]
                    refine wpAnyH_take (i := 9) (oi := { dst := some 159, op := Go.Op.move (Go.Operand.tmp 18), type := 26, pos := "law.go:292", after := #[{ on := 8, ground := Go.Ground.guard }], guard := some (8, true) }) (v := undef) rfl (by kernel_rfl) (by kernel_rfl) (by kernel_rfl) (fun _ _ _ h => h) (Or.inr ⟨by rfl, rfl⟩) hHeld ?_
                    try simp only [Act.put, List.setIfInBounds_toArray, List.set_cons_zero, List.set_cons_succ]
                    refine wpAnyH_take (i := 10) (oi := { dst := some 160, op := Go.Op.binOp Go.BinOp.neq 26 (Go.Operand.tmp 159) (Go.Operand.const (Go.Value.int Go.IntKind.i64 0)) 26, type := 4, pos := "law.go:292", after := #[{ on := 9, ground := Go.Ground.data }, { on := 8, ground := Go.Ground.guard }], guard := some (8, true) }) (v := undef) rfl (by kernel_rfl) (by kernel_rfl) (by kernel_rfl) (fun _ _ _ h => h) (Or.inr ⟨by rfl, rfl⟩) hHeld ?_
                    try simp only [Act.put, List.setIfInBounds_toArray, List.set_cons_zero, List.set_cons_succ]
                    refine wpAnyH_take (i := 11) (oi := { dst := some 161, op := Go.Op.move (Go.Operand.tmp 160), type := 4, pos := "law.go:292", after := #[{ on := 10, ground := Go.Ground.data }, { on := 8, ground := Go.Ground.chain }, { on := 8, ground := Go.Ground.guard }], guard := some (8, true) }) (v := undef) rfl (by kernel_rfl) (by kernel_rfl) (by kernel_rfl) (fun _ _ _ h => h) (Or.inr ⟨by rfl, rfl⟩) hHeld ?_
                    try simp only [Act.put, List.setIfInBounds_toArray, List.set_cons_zero, List.set_cons_succ]
                    refine wpAnyH_take (i := 12) (oi := { dst := some 162, op := Go.Op.move (Go.Operand.tmp 4), type := 29, pos := "law.go:292", after := #[{ on := 11, ground := Go.Ground.guard }], guard := some (11, false) }) (v := undef) rfl (by kernel_rfl) (by kernel_rfl) (by kernel_rfl) (fun _ _ _ h => h) (Or.inr ⟨by rfl, rfl⟩) hHeld ?_
                    try simp only [Act.put, List.setIfInBounds_toArray, List.set_cons_zero, List.set_cons_succ]
                    refine wpAnyH_take (i := 15) (oi := { dst := some 165, op := Go.Op.move (Go.Operand.tmp 11), type := 36, pos := "law.go:292", after := #[{ on := 11, ground := Go.Ground.guard }], guard := some (11, false) }) (v := undef) rfl (by kernel_rfl) (by kernel_rfl) (by kernel_rfl) (fun _ _ _ h => h) (Or.inr ⟨by rfl, rfl⟩) hHeld ?_
                    try simp only [Act.put, List.setIfInBounds_toArray, List.set_cons_zero, List.set_cons_succ]
                    refine wpAnyH_take (i := 16) (oi := { dst := some 166, op := Go.Op.call { callee := Go.Callee.builtin Go.Builtin.len, args := #[Go.Operand.tmp 165], argTypes := #[36] }, type := 3, pos := "law.go:292", after := #[{ on := 15, ground := Go.Ground.data }, { on := 11, ground := Go.Ground.guard }], guard := some (11, false) }) (v := undef) rfl (by kernel_rfl) (by kernel_rfl) (by kernel_rfl) (fun _ _ _ h => h) (Or.inr ⟨by rfl, rfl⟩) hHeld ?_
                    try simp only [Act.put, List.setIfInBounds_toArray, List.set_cons_zero, List.set_cons_succ]
                    refine wpAnyH_take (i := 17) (oi := { dst := some 167, op := Go.Op.binOp Go.BinOp.sub 3 (Go.Operand.tmp 166) (Go.Operand.const (Go.Value.int Go.IntKind.i64 1)) 3, type := 3, pos := "law.go:292", after := #[{ on := 16, ground := Go.Ground.data }, { on := 11, ground := Go.Ground.guard }], guard := some (11, false) }) (v := undef) rfl (by kernel_rfl) (by kernel_rfl) (by kernel_rfl) (fun _ _ _ h => h) (Or.inr ⟨by rfl, rfl⟩) hHeld ?_
                    try simp only [Act.put, List.setIfInBounds_toArray, List.set_cons_zero, List.set_cons_succ]
                    refine wpAnyH_ready (rs := [13]) (by kernel_rfl) (by simp) ?_
                    refine AllReadyH.cons (o := { dst := some 163, op := Go.Op.call { callee := Go.Callee.value (Go.Operand.func 19), args := #[Go.Operand.tmp 162], argTypes := #[29] }, type := 36, pos := "law.go:292", after := #[{ on := 12, ground := Go.Ground.data }, { on := 11, ground := Go.Ground.chain }, { on := 11, ground := Go.Ground.guard }], guard := some (11, false) }) rfl (fun K hK => ?_) AllReadyH.nil
                    go_simp
                    refine hK.out _ _ hHeld (fun hHeld => ?_)
                    clear hK K
                    try simp only [Act.put, List.setIfInBounds_toArray, List.set_cons_zero, List.set_cons_succ]
                    refine wpAnyH_take (i := 14) (oi := { dst := some 164, op := Go.Op.call { callee := Go.Callee.builtin Go.Builtin.len, args := #[Go.Operand.tmp 163], argTypes := #[36] }, type := 3, pos := "law.go:292", after := #[{ on := 13, ground := Go.Ground.data }, { on := 11, ground := Go.Ground.guard }], guard := some (11, false) }) (v := undef) rfl (by kernel_rfl) (by kernel_rfl) (by kernel_rfl) (fun _ _ _ h => h) (Or.inr ⟨by rfl, rfl⟩) hHeld ?_
                    try simp only [Act.put, List.setIfInBounds_toArray, List.set_cons_zero, List.set_cons_succ]
                    refine wpAnyH_take (i := 18) (oi := { dst := some 168, op := Go.Op.binOp Go.BinOp.neq 3 (Go.Operand.tmp 164) (Go.Operand.tmp 167) 3, type := 4, pos := "law.go:292", after := #[{ on := 14, ground := Go.Ground.data }, { on := 17, ground := Go.Ground.data }, { on := 11, ground := Go.Ground.guard }], guard := some (11, false) }) (v := undef) rfl (by kernel_rfl) (by kernel_rfl) (by kernel_rfl) (fun _ _ _ h => h) (Or.inr ⟨by rfl, rfl⟩) hHeld ?_
                    try simp only [Act.put, List.setIfInBounds_toArray, List.set_cons_zero, List.set_cons_succ]
                    refine wpAnyH_take (i := 19) (oi := { dst := some 169, op := Go.Op.pick (Go.Operand.tmp 161) (Go.Operand.const (Go.Value.bool true)) (Go.Operand.tmp 168), type := 4, pos := "law.go:292", after := #[{ on := 11, ground := Go.Ground.data }, { on := 18, ground := Go.Ground.data }, { on := 8, ground := Go.Ground.guard }], guard := some (8, true) }) (v := undef) rfl (by kernel_rfl) (by kernel_rfl) (by kernel_rfl) (fun _ _ _ h => h) (Or.inr ⟨by rfl, rfl⟩) hHeld ?_
                    try simp only [Act.put, List.setIfInBounds_toArray, List.set_cons_zero, List.set_cons_succ]
                    refine wpAnyH_take (i := 20) (oi := { dst := some 170, op := Go.Op.pick (Go.Operand.tmp 158) (Go.Operand.tmp 169) (Go.Operand.const (Go.Value.bool false)), type := 4, pos := "law.go:292", after := #[{ on := 8, ground := Go.Ground.data }, { on := 19, ground := Go.Ground.data }, { on := 6, ground := Go.Ground.guard }], guard := some (6, false) }) (v := ?_) rfl (by kernel_rfl) (by kernel_rfl) (by kernel_rfl) (fun _ _ _ h => h) (Or.inl ⟨by rfl, ?_⟩) hHeld ?_
                    rotate_left
                    · intro W hSw
                      try dsimp only at hSw
                      go_simp
                      try with_reducible rfl
                    try simp only [Act.put, List.setIfInBounds_toArray, List.set_cons_zero, List.set_cons_succ]
                    refine wpAnyH_take (i := 21) (oi := { dst := some 171, op := Go.Op.pick (Go.Operand.tmp 156) (Go.Operand.const (Go.Value.bool true)) (Go.Operand.tmp 170), type := 4, pos := "law.go:292", after := #[{ on := 6, ground := Go.Ground.data }, { on := 20, ground := Go.Ground.data }], guard := none }) (v := ?_) rfl (by kernel_rfl) (by kernel_rfl) (by kernel_rfl) (fun _ _ _ h => h) (Or.inl ⟨by rfl, ?_⟩) hHeld ?_
                    rotate_left
                    · intro W hSw
                      try dsimp only at hSw
                      go_simp
                      try with_reducible rfl
                    try simp only [Act.put, List.setIfInBounds_toArray, List.set_cons_zero, List.set_cons_succ]
                    refine wpAnyH_take (i := 22) (oi := { dst := some 172, op := Go.Op.move (Go.Operand.tmp 171), type := 4, pos := "law.go:292", after := #[{ on := 21, ground := Go.Ground.data }, { on := 13, ground := Go.Ground.chain }], guard := none }) (v := ?_) rfl (by kernel_rfl) (by kernel_rfl) (by kernel_rfl) (fun _ _ _ h => h) (Or.inl ⟨by rfl, ?_⟩) hHeld ?_
                    rotate_left
                    · intro W hSw
                      try dsimp only at hSw
                      go_simp
                      try with_reducible rfl
                    try simp only [Act.put, List.setIfInBounds_toArray, List.set_cons_zero, List.set_cons_succ]
                    refine wpAnyH_take (i := 23) (oi := { dst := some 173, op := Go.Op.move (Go.Operand.tmp 17), type := 4, pos := "law.go:292", after := #[{ on := 22, ground := Go.Ground.guard }], guard := some (22, false) }) (v := ?_) rfl (by kernel_rfl) (by kernel_rfl) (by kernel_rfl) (fun _ _ _ h => h) (Or.inl ⟨by rfl, ?_⟩) hHeld ?_
                    rotate_left
                    · intro W hSw
                      try dsimp only at hSw
                      go_simp
                      try with_reducible rfl
                    try simp only [Act.put, List.setIfInBounds_toArray, List.set_cons_zero, List.set_cons_succ]
                    refine wpAnyH_take (i := 24) (oi := { dst := some 174, op := Go.Op.unOp Go.UnOp.not 4 (Go.Operand.tmp 173), type := 4, pos := "law.go:292", after := #[{ on := 23, ground := Go.Ground.data }, { on := 22, ground := Go.Ground.guard }], guard := some (22, false) }) (v := ?_) rfl (by kernel_rfl) (by kernel_rfl) (by kernel_rfl) (fun _ _ _ h => h) (Or.inl ⟨by rfl, ?_⟩) hHeld ?_
                    rotate_left
                    · intro W hSw
                      try dsimp only at hSw
                      go_simp
                      try with_reducible rfl
                    try simp only [Act.put, List.setIfInBounds_toArray, List.set_cons_zero, List.set_cons_succ]
                    refine wpAnyH_take (i := 25) (oi := { dst := some 175, op := Go.Op.move (Go.Operand.tmp 174), type := 4, pos := "law.go:292", after := #[{ on := 24, ground := Go.Ground.data }, { on := 22, ground := Go.Ground.chain }, { on := 22, ground := Go.Ground.guard }], guard := some (22, false) }) (v := ?_) rfl (by kernel_rfl) (by kernel_rfl) (by kernel_rfl) (fun _ _ _ h => h) (Or.inl ⟨by rfl, ?_⟩) hHeld ?_
                    rotate_left
                    · intro W hSw
                      try dsimp only at hSw
                      go_simp
                      try with_reducible rfl
                    try simp only [Act.put, List.setIfInBounds_toArray, List.set_cons_zero, List.set_cons_succ]
                    refine wpAnyH_take (i := 26) (oi := { dst := some 176, op := Go.Op.move (Go.Operand.tmp 4), type := 29, pos := "law.go:292", after := #[{ on := 25, ground := Go.Ground.guard }], guard := some (25, true) }) (v := ?_) rfl (by kernel_rfl) (by kernel_rfl) (by kernel_rfl) (fun _ _ _ h => h) (Or.inl ⟨by rfl, ?_⟩) hHeld ?_
                    rotate_left
                    · intro W hSw
                      try dsimp only at hSw
                      go_simp
                      try with_reducible rfl
                    try simp only [Act.put, List.setIfInBounds_toArray, List.set_cons_zero, List.set_cons_succ]
                    refine wpAnyH_take (i := 28) (oi := { dst := some 178, op := Go.Op.move (Go.Operand.tmp 11), type := 36, pos := "law.go:292", after := #[{ on := 25, ground := Go.Ground.guard }], guard := some (25, true) }) (v := ?_) rfl (by kernel_rfl) (by kernel_rfl) (by kernel_rfl) (fun _ _ _ h => h) (Or.inl ⟨by rfl, ?_⟩) hHeld ?_
                    rotate_left
                    · intro W hSw
                      try dsimp only at hSw
                      go_simp
                      try with_reducible rfl
                    try simp only [Act.put, List.setIfInBounds_toArray, List.set_cons_zero, List.set_cons_succ]
                    refine wpAnyH_ready (rs := [27]) (by kernel_rfl) (by simp) ?_
                    refine AllReadyH.cons (o := { dst := some 177, op := Go.Op.call { callee := Go.Callee.value (Go.Operand.func 19), args := #[Go.Operand.tmp 176], argTypes := #[29] }, type := 36, pos := "law.go:292", after := #[{ on := 26, ground := Go.Ground.data }, { on := 25, ground := Go.Ground.chain }, { on := 25, ground := Go.Ground.guard }], guard := some (25, true) }) rfl (fun K hK => ?_) AllReadyH.nil
                    go_simp
                    refine H1.out.mono ?_
                    rintro e w7 ⟨A3, cap3, rfl, own3, hb7⟩
                    have S8 := Lib.hid (S7.out.newRow hb7 own3)
                    have Z2 := RfS.of hbx S8.out 1 3 (by simp) (by simp) rfl rfl
                    try go_simp
                    refine hK.out _ _ Z2 (fun hHeld => ?_)
                    clear hK K
                    try simp only [Act.put, List.setIfInBounds_toArray, List.set_cons_zero, List.set_cons_succ]
                    refine wpAnyH_ready (rs := [29]) (by kernel_rfl) (by simp) ?_
                    refine AllReadyH.cons (o := { dst := some 179, op := Go.Op.call { callee := Go.Callee.value (Go.Operand.func 26), args := #[Go.Operand.tmp 177, Go.Operand.tmp 178], argTypes := #[36, 36] }, type := 4, pos := "law.go:292", after := #[{ on := 27, ground := Go.Ground.data }, { on := 28, ground := Go.Ground.data }, { on := 27, ground := Go.Ground.chain }, { on := 25, ground := Go.Ground.guard }], guard := some (25, true) }) rfl (fun K hK => ?_) AllReadyH.nil
                    go_simp
                    have T1 := Tab.of_own HM.out.symm (S8.out.row 0 (by simp) rfl)
                    have T2 := Tab.of_own HM.out.symm (S8.out.row 2 (by simp) rfl)
                    refine (HSM.out A3 cap3 _ T1 T2).mono ?_
                    rintro e w8 ⟨rfl, hb8⟩
                    clear T1 T2
                    have S9b := Lib.hid (S8.out.below hb8)
                    have Z3 := RfS.of hbx S9b.out 1 3 (by simp) (by simp) rfl rfl
                    try go_simp
                    refine hK.out _ _ Z3 (fun hHeld => ?_)
                    clear hK K
                    try simp only [Act.put, List.setIfInBounds_toArray, List.set_cons_zero, List.set_cons_succ]
                    refine wpAnyH_take (i := 30) (oi := { dst := some 180, op := Go.Op.unOp Go.UnOp.not 4 (Go.Operand.tmp 179), type := 4, pos := "law.go:292", after := #[{ on := 29, ground := Go.Ground.data }, { on := 25, ground := Go.Ground.guard }], guard := some (25, true) }) (v := ?_) rfl (by kernel_rfl) (by kernel_rfl) (by kernel_rfl) (fun _ _ _ h => h) (Or.inl ⟨by rfl, ?_⟩) hHeld ?_
                    rotate_left
                    · intro W hSw
                      try dsimp only at hSw
                      go_simp
                      try with_reducible rfl
                    try simp only [Act.put, List.setIfInBounds_toArray, List.set_cons_zero, List.set_cons_succ]
                    refine wpAnyH_take (i := 31) (oi := { dst := some 181, op := Go.Op.move (Go.Operand.tmp 180), type := 4, pos := "law.go:292", after := #[{ on := 30, ground := Go.Ground.data }, { on := 29, ground := Go.Ground.chain }, { on := 25, ground := Go.Ground.guard }], guard := some (25, true) }) (v := ?_) rfl (by kernel_rfl) (by kernel_rfl) (by kernel_rfl) (fun _ _ _ h => h) (Or.inl ⟨by rfl, ?_⟩) hHeld ?_
                    rotate_left
                    · intro W hSw
                      try dsimp only at hSw
                      go_simp
                      try with_reducible rfl
                    try simp only [Act.put, List.setIfInBounds_toArray, List.set_cons_zero, List.set_cons_succ]
                    refine wpAnyH_take (i := 32) (oi := { dst := some 182, op := Go.Op.move (Go.Operand.tmp 4), type := 29, pos := "law.go:292", after := #[{ on := 31, ground := Go.Ground.guard }], guard := some (31, false) }) (v := ?_) rfl (by kernel_rfl) (by kernel_rfl) (by kernel_rfl) (fun _ _ _ h => h) (Or.inl ⟨by rfl, ?_⟩) hHeld ?_
                    rotate_left
                    · intro W hSw
                      try dsimp only at hSw
                      go_simp
                      try with_reducible rfl
                    try simp only [Act.put, List.setIfInBounds_toArray, List.set_cons_zero, List.set_cons_succ]
                    refine wpAnyH_take (i := 34) (oi := { dst := some 184, op := Go.Op.load 69 (Go.Operand.tmp 12), type := 69, pos := "law.go:292", after := #[{ on := 31, ground := Go.Ground.guard }], guard := some (31, false) }) (v := ?_) rfl (by kernel_rfl) (by kernel_rfl) (by kernel_rfl) (fun _ _ _ h => h) (Or.inl ⟨by rfl, ?_⟩) hHeld ?_
                    rotate_left
                    · intro W hSw
                      try dsimp only at hSw
                      go_simp
                      try with_reducible rfl
                    try simp only [Act.put, List.setIfInBounds_toArray, List.set_cons_zero, List.set_cons_succ]
                    refine wpAnyH_ready (rs := [33]) (by kernel_rfl) (by simp) ?_
                    refine AllReadyH.cons (o := { dst := some 183, op := Go.Op.call { callee := Go.Callee.value (Go.Operand.func 24), args := #[Go.Operand.tmp 182], argTypes := #[29] }, type := 69, pos := "law.go:292", after := #[{ on := 32, ground := Go.Ground.data }, { on := 31, ground := Go.Ground.chain }, { on := 31, ground := Go.Ground.guard }], guard := some (31, false) }) rfl (fun K hK => ?_) AllReadyH.nil
                    go_simp
                    refine (S9b.out.back 4 (by simp) rfl).mono ?_
                    rintro e w9 ⟨rfl, hb9⟩
                    have S10 := Lib.hid (S9b.out.below hb9)
                    have Z4 := RfS.of hbx S10.out 1 3 (by simp) (by simp) rfl rfl
                    try go_simp
                    refine hK.out _ _ Z4 (fun hHeld => ?_)
                    clear hK K
                    try simp only [Act.put, List.setIfInBounds_toArray, List.set_cons_zero, List.set_cons_succ]
                    refine wpAnyH_take (i := 35) (oi := { dst := some 185, op := Go.Op.binOp Go.BinOp.neq 69 (Go.Operand.tmp 183) (Go.Operand.tmp 184) 69, type := 4, pos := "law.go:292", after := #[{ on := 33, ground := Go.Ground.data }, { on := 34, ground := Go.Ground.data }, { on := 31, ground := Go.Ground.guard }], guard := some (31, false) }) (v := ?_) rfl (by kernel_rfl) (by kernel_rfl) (by kernel_rfl) (fun _ _ _ h => h) (Or.inl ⟨by rfl, ?_⟩) hHeld ?_
                    rotate_left
                    · intro W hSw
                      try dsimp only at hSw
                      go_simp
                      try with_reducible rfl
                    try simp only [Act.put, List.setIfInBounds_toArray, List.set_cons_zero, List.set_cons_succ]
                    refine wpAnyH_take (i := 36) (oi := { dst := some 186, op := Go.Op.pick (Go.Operand.tmp 181) (Go.Operand.const (Go.Value.bool true)) (Go.Operand.tmp 185), type := 4, pos := "law.go:292", after := #[{ on := 31, ground := Go.Ground.data }, { on := 35, ground := Go.Ground.data }, { on := 25, ground := Go.Ground.guard }], guard := some (25, true) }) (v := ?_) rfl (by kernel_rfl) (by kernel_rfl) (by kernel_rfl) (fun _ _ _ h => h) (Or.inl ⟨by rfl, ?_⟩) hHeld ?_
                    rotate_left
                    · intro W hSw
                      try dsimp only at hSw
                      go_simp
                      try with_reducible rfl
                    try simp only [Act.put, List.setIfInBounds_toArray, List.set_cons_zero, List.set_cons_succ]
                    refine wpAnyH_take (i := 37) (oi := { dst := some 187, op := Go.Op.pick (Go.Operand.tmp 175) (Go.Operand.tmp 186) (Go.Operand.const (Go.Value.bool false)), type := 4, pos := "law.go:292", after := #[{ on := 25, ground := Go.Ground.data }, { on := 36, ground := Go.Ground.data }, { on := 22, ground := Go.Ground.guard }], guard := some (22, false) }) (v := ?_) rfl (by kernel_rfl) (by kernel_rfl) (by kernel_rfl) (fun _ _ _ h => h) (Or.inl ⟨by rfl, ?_⟩) hHeld ?_
                    rotate_left
                    · intro W hSw
                      try dsimp only at hSw
                      go_simp
                      try with_reducible rfl
                    try simp only [Act.put, List.setIfInBounds_toArray, List.set_cons_zero, List.set_cons_succ]
                    refine wpAnyH_take (i := 38) (oi := { dst := some 188, op := Go.Op.pick (Go.Operand.tmp 172) (Go.Operand.const (Go.Value.bool true)) (Go.Operand.tmp 187), type := 4, pos := "law.go:292", after := #[{ on := 22, ground := Go.Ground.data }, { on := 37, ground := Go.Ground.data }], guard := none }) (v := ?_) rfl (by kernel_rfl) (by kernel_rfl) (by kernel_rfl) (fun _ _ _ h => h) (Or.inl ⟨by rfl, ?_⟩) hHeld ?_
                    rotate_left
                    · intro W hSw
                      try dsimp only at hSw
                      go_simp
                      try with_reducible rfl
                    try simp only [Act.put, List.setIfInBounds_toArray, List.set_cons_zero, List.set_cons_succ]
                    refine wpAnyH_take (i := 39) (oi := { dst := some 189, op := Go.Op.move (Go.Operand.tmp 188), type := 4, pos := "law.go:292", after := #[{ on := 38, ground := Go.Ground.data }, { on := 33, ground := Go.Ground.chain }], guard := none }) (v := ?_) rfl (by kernel_rfl) (by kernel_rfl) (by kernel_rfl) (fun _ _ _ h => h) (Or.inl ⟨by rfl, ?_⟩) hHeld ?_
                    rotate_left
                    · intro W hSw
                      try dsimp only at hSw
                      go_simp
                      try with_reducible rfl
                    try simp only [Act.put, List.setIfInBounds_toArray, List.set_cons_zero, List.set_cons_succ]
                    refine wpAnyH_take (i := 40) (oi := { dst := some 190, op := Go.Op.move (Go.Operand.tmp 3), type := 25, pos := "law.go:292", after := #[{ on := 39, ground := Go.Ground.guard }], guard := some (39, false) }) (v := ?_) rfl (by kernel_rfl) (by kernel_rfl) (by kernel_rfl) (fun _ _ _ h => h) (Or.inl ⟨by rfl, ?_⟩) hHeld ?_
                    rotate_left
                    · intro W hSw
                      try dsimp only at hSw
                      go_simp
                      try with_reducible rfl
                    try simp only [Act.put, List.setIfInBounds_toArray, List.set_cons_zero, List.set_cons_succ]
                    refine wpAnyH_take (i := 42) (oi := { dst := some 192, op := Go.Op.move (Go.Operand.tmp 9), type := 9, pos := "law.go:292", after := #[{ on := 39, ground := Go.Ground.guard }], guard := some (39, false) }) (v := ?_) rfl (by kernel_rfl) (by kernel_rfl) (by kernel_rfl) (fun _ _ _ h => h) (Or.inl ⟨by rfl, ?_⟩) hHeld ?_
                    rotate_left
                    · intro W hSw
                      try dsimp only at hSw
                      go_simp
                      try with_reducible rfl
                    try simp only [Act.put, List.setIfInBounds_toArray, List.set_cons_zero, List.set_cons_succ]
                    refine wpAnyH_ready (rs := [41]) (by kernel_rfl) (by simp) ?_
                    refine AllReadyH.cons (o := { dst := some 191, op := Go.Op.call { callee := Go.Callee.value (Go.Operand.func 23), args := #[Go.Operand.tmp 190], argTypes := #[25] }, type := 9, pos := "law.go:292", after := #[{ on := 40, ground := Go.Ground.data }, { on := 39, ground := Go.Ground.chain }, { on := 39, ground := Go.Ground.guard }], guard := some (39, false) }) rfl (fun K hK => ?_) AllReadyH.nil
                    go_simp
                    have HIM := S10.out.image 4 (by simp) rfl
                    rw [HS9.out] at HIM
                    refine HIM.mono ?_
                    rintro e wx ⟨rfl, rfl⟩
                    clear HIM
                    try go_simp
                    refine hK.out _ _ Z4 (fun hHeld => ?_)
                    clear hK K
                    try simp only [Act.put, List.setIfInBounds_toArray, List.set_cons_zero, List.set_cons_succ]
                    refine wpAnyH_take (i := 43) (oi := { dst := some 193, op := Go.Op.binOp Go.BinOp.neq 9 (Go.Operand.tmp 191) (Go.Operand.tmp 192) 9, type := 4, pos := "law.go:292", after := #[{ on := 41, ground := Go.Ground.data }, { on := 42, ground := Go.Ground.data }, { on := 39, ground := Go.Ground.guard }], guard := some (39, false) }) (v := ?_) rfl (by kernel_rfl) (by kernel_rfl) (by kernel_rfl) (fun _ _ _ h => h) (Or.inl ⟨by rfl, ?_⟩) hHeld ?_
                    rotate_left
                    · intro W hSw
                      try dsimp only at hSw
                      go_simp
                      try with_reducible rfl
                    try simp only [Act.put, List.setIfInBounds_toArray, List.set_cons_zero, List.set_cons_succ]
                    refine wpAnyH_take (i := 44) (oi := { dst := some 194, op := Go.Op.pick (Go.Operand.tmp 189) (Go.Operand.const (Go.Value.bool true)) (Go.Operand.tmp 193), type := 4, pos := "law.go:292", after := #[{ on := 39, ground := Go.Ground.data }, { on := 43, ground := Go.Ground.data }], guard := none }) (v := ?_) rfl (by kernel_rfl) (by kernel_rfl) (by kernel_rfl) (fun _ _ _ h => h) (Or.inl ⟨by rfl, ?_⟩) hHeld ?_
                    rotate_left
                    · intro W hSw
                      try dsimp only at hSw
                      go_simp
                      try with_reducible rfl
                    try simp only [Act.put, List.setIfInBounds_toArray, List.set_cons_zero, List.set_cons_succ]
                    refine wpAnyH_done (by kernel_rfl) ?_ _
                    go_wp2_with fail
                    go_roundw
                    case rel => exact ⟨k + 1, xs, q, by omega, by go_num, hx, Hok.out, hr0.out, hz0.out, by omega, St.pop (St.pop (St.pop (St.pop S10.out)))⟩
                    case measure => have := Hk80.out; simp [intOf]; omega
                  · go_wp2_with fail
                    refine wp_region_held_drew (S := (fun W => (W.cell? ⟨g0, 1, none⟩ = some (.int .i64 r) ∧ W.cell? ⟨g0, 2, none⟩ = some (.int .i64 z) ∧ W.cell? ⟨w3.heap.size, 0, none⟩ = some (.int .i64 (q.ba : Int)) ∧ W.cell? ⟨w3.heap.size, 1, none⟩ = some (.bool q.bw) ∧ W.cell? ⟨O, 0, none⟩ = some (.int .i64 o.k) ∧ W.cell? ⟨O, 1, none⟩ = some (.int .i64 o.a) ∧ W.cell? ⟨O, 2, none⟩ = some (.int .i64 o.id) ∧ W.cell? ⟨O, 3, none⟩ = some (.int .i64 o.n) ∧ W.cell? ⟨O, 4, none⟩ = some (.slice o.pA o.pl.length o.pc) ∧ W.cell? ⟨O, 5, none⟩ = some (.string o.s) ∧ W.cell? ⟨O, 6, none⟩ = some (.int .i64 o.eo) ∧ W.cell? ⟨O, 7, none⟩ = some (.bool o.ew) ∧ W.cell? ⟨O, 8, none⟩ = some (.int .i64 o.ef) ∧ W.cell? ⟨O, 9, none⟩ = some (.bool o.wr)) ∧ (g0 < W.heap.size ∧ w3.heap.size < W.heap.size ∧ O < W.heap.size) ∧ ∃ l, St (fun _ => False) w0 (stars l) W)) (by kernel_rfl) X1.out (fun hHeld => ?_)
                    refine wpAnyH_take (i := 0) (oi := { dst := some 150, op := Go.Op.move (Go.Operand.tmp 17), type := 4, pos := "law.go:292", after := #[], guard := none }) (v := ?_) rfl (by kernel_rfl) (by kernel_rfl) (by kernel_rfl) (fun _ _ _ h => h) (Or.inl ⟨by rfl, ?_⟩) hHeld ?_
                    rotate_left
                    · intro W hSw
                      try dsimp only at hSw
                      go_simp
                      try with_reducible rfl
                    try simp only [Act.put, List.setIfInBounds_toArray, List.set_cons_zero, List.set_cons_succ]
                    refine wpAnyH_take (i := 1) (oi := { dst := some 151, op := Go.Op.move (Go.Operand.tmp 19), type := 4, pos := "law.go:292", after := #[], guard := none }) (v := ?_) rfl (by kernel_rfl) (by kernel_rfl) (by kernel_rfl) (fun _ _ _ h => h) (Or.inl ⟨by rfl, ?_⟩) hHeld ?_
                    rotate_left
                    · intro W hSw
                      try dsimp only at hSw
                      go_simp
                      try with_reducible rfl
                    try simp only [Act.put, List.setIfInBounds_toArray, List.set_cons_zero, List.set_cons_succ]
                    refine wpAnyH_take (i := 2) (oi := { dst := some 152, op := Go.Op.binOp Go.BinOp.neq 4 (Go.Operand.tmp 150) (Go.Operand.tmp 151) 4, type := 4, pos := "law.go:292", after := #[{ on := 0, ground := Go.Ground.data }, { on := 1, ground := Go.Ground.data }], guard := none }) (v := ?_) rfl (by kernel_rfl) (by kernel_rfl) (by kernel_rfl) (fun _ _ _ h => h) (Or.inl ⟨by rfl, ?_⟩) hHeld ?_
                    rotate_left
                    · intro W hSw
                      try dsimp only at hSw
                      go_simp
                      try with_reducible rfl
                    try simp only [Act.put, List.setIfInBounds_toArray, List.set_cons_zero, List.set_cons_succ]
                    refine wpAnyH_take (i := 3) (oi := { dst := some 153, op := Go.Op.move (Go.Operand.tmp 152), type := 4, pos := "law.go:292", after := #[{ on := 2, ground := Go.Ground.data }], guard := none }) (v := ?_) rfl (by kernel_rfl) (by kernel_rfl) (by kernel_rfl) (fun _ _ _ h => h) (Or.inl ⟨by rfl, ?_⟩) hHeld ?_
                    rotate_left
                    · intro W hSw
                      try dsimp only at hSw
                      go_simp
                      try with_reducible rfl
                    try simp only [Act.put, List.setIfInBounds_toArray, List.set_cons_zero, List.set_cons_succ]
                    refine wpAnyH_take (i := 4) (oi := { dst := some 154, op := Go.Op.move (Go.Operand.tmp 17), type := 4, pos := "law.go:292", after := #[{ on := 3, ground := Go.Ground.guard }], guard := some (3, true) }) (v := ?_) rfl (by kernel_rfl) (by kernel_rfl) (by kernel_rfl) (fun _ _ _ h => h) (Or.inl ⟨by rfl, ?_⟩) hHeld ?_
                    rotate_left
                    · intro W hSw
                      try dsimp only at hSw
                      go_simp
                      try with_reducible rfl
                    try simp only [Act.put, List.setIfInBounds_toArray, List.set_cons_zero, List.set_cons_succ]
                    refine wpAnyH_take (i := 5) (oi := { dst := some 155, op := Go.Op.pick (Go.Operand.tmp 153) (Go.Operand.tmp 154) (Go.Operand.const (Go.Value.bool false)), type := 4, pos := "law.go:292", after := #[{ on := 3, ground := Go.Ground.data }, { on := 4, ground := Go.Ground.data }], guard := none }) (v := ?_) rfl (by kernel_rfl) (by kernel_rfl) (by kernel_rfl) (fun _ _ _ h => h) (Or.inl ⟨by rfl, ?_⟩) hHeld ?_
                    rotate_left
                    · intro W hSw
                      try dsimp only at hSw
                      go_simp
                      try with_reducible rfl
                    try simp only [Act.put, List.setIfInBounds_toArray, List.set_cons_zero, List.set_cons_succ]
                    refine wpAnyH_take (i := 6) (oi := { dst := some 156, op := Go.Op.move (Go.Operand.tmp 155), type := 4, pos := "law.go:292", after := #[{ on := 5, ground := Go.Ground.data }, { on := 3, ground := Go.Ground.chain }], guard := none }) (v := ?_) rfl (by kernel_rfl) (by kernel_rfl) (by kernel_rfl) (fun _ _ _ h => h) (Or.inl ⟨by rfl, ?_⟩) hHeld ?_
                    rotate_left
                    · intro W hSw
                      try dsimp only at hSw
                      go_simp
                      try with_reducible rfl
                    try simp only [Act.put, List.setIfInBounds_toArray, List.set_cons_zero, List.set_cons_succ]
                    refine wpAnyH_take (i := 7) (oi := { dst := some 157, op := Go.Op.move (Go.Operand.tmp 17), type := 4, pos := "law.go:292", after := #[{ on := 6, ground := Go.Ground.guard }], guard := some (6, false) }) (v := ?_) rfl (by kernel_rfl) (by kernel_rfl) (by kernel_rfl) (fun _ _ _ h => h) (Or.inl ⟨by rfl, ?_⟩) hHeld ?_
                    rotate_left
                    · intro W hSw
                      try dsimp only at hSw
                      go_simp
                      try with_reducible rfl
                    try simp only [Act.put, List.setIfInBounds_toArray, List.set_cons_zero, List.set_cons_succ]
                    refine wpAnyH_take (i := 8) (oi := { dst := some 158, op := Go.Op.move (Go.Operand.tmp 157), type := 4, pos := "law.go:292", after := #[{ on := 7, ground := Go.Ground.data }, { on := 6, ground := Go.Ground.chain }, { on := 6, ground := Go.Ground.guard }], guard := some (6, false) }) (v := ?_) rfl (by kernel_rfl) (by kernel_rfl) (by kernel_rfl) (fun _ _ _ h => h) (Or.inl ⟨by rfl, ?_⟩) hHeld ?_
                    rotate_left
                    · intro W hSw
                      try dsimp only at hSw
                      go_simp
                      try with_reducible rfl
                    try simp only [Act.put, List.setIfInBounds_toArray, List.set_cons_zero, List.set_cons_succ]
                    refine wpAnyH_take (i := 9) (oi := { dst := some 159, op := Go.Op.move (Go.Operand.tmp 18), type := 26, pos := "law.go:292", after := #[{ on := 8, ground := Go.Ground.guard }], guard := some (8, true) }) (v := undef) rfl (by kernel_rfl) (by kernel_rfl) (by kernel_rfl) (fun _ _ _ h => h) (Or.inr ⟨by rfl, rfl⟩) hHeld ?_
                    try simp only [Act.put, List.setIfInBounds_toArray, List.set_cons_zero, List.set_cons_succ]
                    refine wpAnyH_take (i := 10) (oi := { dst := some 160, op := Go.Op.binOp Go.BinOp.neq 26 (Go.Operand.tmp 159) (Go.Operand.const (Go.Value.int Go.IntKind.i64 0)) 26, type := 4, pos := "law.go:292", after := #[{ on := 9, ground := Go.Ground.data }, { on := 8, ground := Go.Ground.guard }], guard := some (8, true) }) (v := undef) rfl (by kernel_rfl) (by kernel_rfl) (by kernel_rfl) (fun _ _ _ h => h) (Or.inr ⟨by rfl, rfl⟩) hHeld ?_
                    try simp only [Act.put, List.setIfInBounds_toArray, List.set_cons_zero, List.set_cons_succ]
                    refine wpAnyH_take (i := 11) (oi := { dst := some 161, op := Go.Op.move (Go.Operand.tmp 160), type := 4, pos := "law.go:292", after := #[{ on := 10, ground := Go.Ground.data }, { on := 8, ground := Go.Ground.chain }, { on := 8, ground := Go.Ground.guard }], guard := some (8, true) }) (v := undef) rfl (by kernel_rfl) (by kernel_rfl) (by kernel_rfl) (fun _ _ _ h => h) (Or.inr ⟨by rfl, rfl⟩) hHeld ?_
                    try simp only [Act.put, List.setIfInBounds_toArray, List.set_cons_zero, List.set_cons_succ]
                    refine wpAnyH_take (i := 12) (oi := { dst := some 162, op := Go.Op.move (Go.Operand.tmp 4), type := 29, pos := "law.go:292", after := #[{ on := 11, ground := Go.Ground.guard }], guard := some (11, false) }) (v := undef) rfl (by kernel_rfl) (by kernel_rfl) (by kernel_rfl) (fun _ _ _ h => h) (Or.inr ⟨by rfl, rfl⟩) hHeld ?_
                    try simp only [Act.put, List.setIfInBounds_toArray, List.set_cons_zero, List.set_cons_succ]
                    refine wpAnyH_take (i := 15) (oi := { dst := some 165, op := Go.Op.move (Go.Operand.tmp 11), type := 36, pos := "law.go:292", after := #[{ on := 11, ground := Go.Ground.guard }], guard := some (11, false) }) (v := undef) rfl (by kernel_rfl) (by kernel_rfl) (by kernel_rfl) (fun _ _ _ h => h) (Or.inr ⟨by rfl, rfl⟩) hHeld ?_
                    try simp only [Act.put, List.setIfInBounds_toArray, List.set_cons_zero, List.set_cons_succ]
                    refine wpAnyH_take (i := 16) (oi := { dst := some 166, op := Go.Op.call { callee := Go.Callee.builtin Go.Builtin.len, args := #[Go.Operand.tmp 165], argTypes := #[36] }, type := 3, pos := "law.go:292", after := #[{ on := 15, ground := Go.Ground.data }, { on := 11, ground := Go.Ground.guard }], guard := some (11, false) }) (v := undef) rfl (by kernel_rfl) (by kernel_rfl) (by kernel_rfl) (fun _ _ _ h => h) (Or.inr ⟨by rfl, rfl⟩) hHeld ?_
                    try simp only [Act.put, List.setIfInBounds_toArray, List.set_cons_zero, List.set_cons_succ]
                    refine wpAnyH_take (i := 17) (oi := { dst := some 167, op := Go.Op.binOp Go.BinOp.sub 3 (Go.Operand.tmp 166) (Go.Operand.const (Go.Value.int Go.IntKind.i64 1)) 3, type := 3, pos := "law.go:292", after := #[{ on := 16, ground := Go.Ground.data }, { on := 11, ground := Go.Ground.guard }], guard := some (11, false) }) (v := undef) rfl (by kernel_rfl) (by kernel_rfl) (by kernel_rfl) (fun _ _ _ h => h) (Or.inr ⟨by rfl, rfl⟩) hHeld ?_
                    try simp only [Act.put, List.setIfInBounds_toArray, List.set_cons_zero, List.set_cons_succ]
                    refine wpAnyH_ready (rs := [13]) (by kernel_rfl) (by simp) ?_
                    refine AllReadyH.cons (o := { dst := some 163, op := Go.Op.call { callee := Go.Callee.value (Go.Operand.func 19), args := #[Go.Operand.tmp 162], argTypes := #[29] }, type := 36, pos := "law.go:292", after := #[{ on := 12, ground := Go.Ground.data }, { on := 11, ground := Go.Ground.chain }, { on := 11, ground := Go.Ground.guard }], guard := some (11, false) }) rfl (fun K hK => ?_) AllReadyH.nil
                    go_simp
                    refine hK.out _ _ hHeld (fun hHeld => ?_)
                    clear hK K
                    try simp only [Act.put, List.setIfInBounds_toArray, List.set_cons_zero, List.set_cons_succ]
                    refine wpAnyH_take (i := 14) (oi := { dst := some 164, op := Go.Op.call { callee := Go.Callee.builtin Go.Builtin.len, args := #[Go.Operand.tmp 163], argTypes := #[36] }, type := 3, pos := "law.go:292", after := #[{ on := 13, ground := Go.Ground.data }, { on := 11, ground := Go.Ground.guard }], guard := some (11, false) }) (v := undef) rfl (by kernel_rfl) (by kernel_rfl) (by kernel_rfl) (fun _ _ _ h => h) (Or.inr ⟨by rfl, rfl⟩) hHeld ?_
                    try simp only [Act.put, List.setIfInBounds_toArray, List.set_cons_zero, List.set_cons_succ]
                    refine wpAnyH_take (i := 18) (oi := { dst := some 168, op := Go.Op.binOp Go.BinOp.neq 3 (Go.Operand.tmp 164) (Go.Operand.tmp 167) 3, type := 4, pos := "law.go:292", after := #[{ on := 14, ground := Go.Ground.data }, { on := 17, ground := Go.Ground.data }, { on := 11, ground := Go.Ground.guard }], guard := some (11, false) }) (v := undef) rfl (by kernel_rfl) (by kernel_rfl) (by kernel_rfl) (fun _ _ _ h => h) (Or.inr ⟨by rfl, rfl⟩) hHeld ?_
                    try simp only [Act.put, List.setIfInBounds_toArray, List.set_cons_zero, List.set_cons_succ]
                    refine wpAnyH_take (i := 19) (oi := { dst := some 169, op := Go.Op.pick (Go.Operand.tmp 161) (Go.Operand.const (Go.Value.bool true)) (Go.Operand.tmp 168), type := 4, pos := "law.go:292", after := #[{ on := 11, ground := Go.Ground.data }, { on := 18, ground := Go.Ground.data }, { on := 8, ground := Go.Ground.guard }], guard := some (8, true) }) (v := undef) rfl (by kernel_rfl) (by kernel_rfl) (by kernel_rfl) (fun _ _ _ h => h) (Or.inr ⟨by rfl, rfl⟩) hHeld ?_
                    try simp only [Act.put, List.setIfInBounds_toArray, List.set_cons_zero, List.set_cons_succ]
                    refine wpAnyH_take (i := 20) (oi := { dst := some 170, op := Go.Op.pick (Go.Operand.tmp 158) (Go.Operand.tmp 169) (Go.Operand.const (Go.Value.bool false)), type := 4, pos := "law.go:292", after := #[{ on := 8, ground := Go.Ground.data }, { on := 19, ground := Go.Ground.data }, { on := 6, ground := Go.Ground.guard }], guard := some (6, false) }) (v := ?_) rfl (by kernel_rfl) (by kernel_rfl) (by kernel_rfl) (fun _ _ _ h => h) (Or.inl ⟨by rfl, ?_⟩) hHeld ?_
                    rotate_left
                    · intro W hSw
                      try dsimp only at hSw
                      go_simp
                      try with_reducible rfl
                    try simp only [Act.put, List.setIfInBounds_toArray, List.set_cons_zero, List.set_cons_succ]
                    refine wpAnyH_take (i := 21) (oi := { dst := some 171, op := Go.Op.pick (Go.Operand.tmp 156) (Go.Operand.const (Go.Value.bool true)) (Go.Operand.tmp 170), type := 4, pos := "law.go:292", after := #[{ on := 6, ground := Go.Ground.data }, { on := 20, ground := Go.Ground.data }], guard := none }) (v := ?_) rfl (by kernel_rfl) (by kernel_rfl) (by kernel_rfl) (fun _ _ _ h => h) (Or.inl ⟨by rfl, ?_⟩) hHeld ?_
                    rotate_left
                    · intro W hSw
                      try dsimp only at hSw
                      go_simp
                      try with_reducible rfl
                    try simp only [Act.put, List.setIfInBounds_toArray, List.set_cons_zero, List.set_cons_succ]
                    refine wpAnyH_take (i := 22) (oi := { dst := some 172, op := Go.Op.move (Go.Operand.tmp 171), type := 4, pos := "law.go:292", after := #[{ on := 21, ground := Go.Ground.data }, { on := 13, ground := Go.Ground.chain }], guard := none }) (v := ?_) rfl (by kernel_rfl) (by kernel_rfl) (by kernel_rfl) (fun _ _ _ h => h) (Or.inl ⟨by rfl, ?_⟩) hHeld ?_
                    rotate_left
                    · intro W hSw
                      try dsimp only at hSw
                      go_simp
                      try with_reducible rfl
                    try simp only [Act.put, List.setIfInBounds_toArray, List.set_cons_zero, List.set_cons_succ]
                    refine wpAnyH_take (i := 23) (oi := { dst := some 173, op := Go.Op.move (Go.Operand.tmp 17), type := 4, pos := "law.go:292", after := #[{ on := 22, ground := Go.Ground.guard }], guard := some (22, false) }) (v := ?_) rfl (by kernel_rfl) (by kernel_rfl) (by kernel_rfl) (fun _ _ _ h => h) (Or.inl ⟨by rfl, ?_⟩) hHeld ?_
                    rotate_left
                    · intro W hSw
                      try dsimp only at hSw
                      go_simp
                      try with_reducible rfl
                    try simp only [Act.put, List.setIfInBounds_toArray, List.set_cons_zero, List.set_cons_succ]
                    refine wpAnyH_take (i := 24) (oi := { dst := some 174, op := Go.Op.unOp Go.UnOp.not 4 (Go.Operand.tmp 173), type := 4, pos := "law.go:292", after := #[{ on := 23, ground := Go.Ground.data }, { on := 22, ground := Go.Ground.guard }], guard := some (22, false) }) (v := ?_) rfl (by kernel_rfl) (by kernel_rfl) (by kernel_rfl) (fun _ _ _ h => h) (Or.inl ⟨by rfl, ?_⟩) hHeld ?_
                    rotate_left
                    · intro W hSw
                      try dsimp only at hSw
                      go_simp
                      try with_reducible rfl
                    try simp only [Act.put, List.setIfInBounds_toArray, List.set_cons_zero, List.set_cons_succ]
                    refine wpAnyH_take (i := 25) (oi := { dst := some 175, op := Go.Op.move (Go.Operand.tmp 174), type := 4, pos := "law.go:292", after := #[{ on := 24, ground := Go.Ground.data }, { on := 22, ground := Go.Ground.chain }, { on := 22, ground := Go.Ground.guard }], guard := some (22, false) }) (v := ?_) rfl (by kernel_rfl) (by kernel_rfl) (by kernel_rfl) (fun _ _ _ h => h) (Or.inl ⟨by rfl, ?_⟩) hHeld ?_
                    rotate_left
                    · intro W hSw
                      try dsimp only at hSw
                      go_simp
                      try with_reducible rfl
                    try simp only [Act.put, List.setIfInBounds_toArray, List.set_cons_zero, List.set_cons_succ]
                    refine wpAnyH_take (i := 26) (oi := { dst := some 176, op := Go.Op.move (Go.Operand.tmp 4), type := 29, pos := "law.go:292", after := #[{ on := 25, ground := Go.Ground.guard }], guard := some (25, true) }) (v := ?_) rfl (by kernel_rfl) (by kernel_rfl) (by kernel_rfl) (fun _ _ _ h => h) (Or.inl ⟨by rfl, ?_⟩) hHeld ?_
                    rotate_left
                    · intro W hSw
                      try dsimp only at hSw
                      go_simp
                      try with_reducible rfl
                    try simp only [Act.put, List.setIfInBounds_toArray, List.set_cons_zero, List.set_cons_succ]
                    refine wpAnyH_take (i := 28) (oi := { dst := some 178, op := Go.Op.move (Go.Operand.tmp 11), type := 36, pos := "law.go:292", after := #[{ on := 25, ground := Go.Ground.guard }], guard := some (25, true) }) (v := ?_) rfl (by kernel_rfl) (by kernel_rfl) (by kernel_rfl) (fun _ _ _ h => h) (Or.inl ⟨by rfl, ?_⟩) hHeld ?_
                    rotate_left
                    · intro W hSw
                      try dsimp only at hSw
                      go_simp
                      try with_reducible rfl
                    try simp only [Act.put, List.setIfInBounds_toArray, List.set_cons_zero, List.set_cons_succ]
                    refine wpAnyH_ready (rs := [27]) (by kernel_rfl) (by simp) ?_
                    refine AllReadyH.cons (o := { dst := some 177, op := Go.Op.call { callee := Go.Callee.value (Go.Operand.func 19), args := #[Go.Operand.tmp 176], argTypes := #[29] }, type := 36, pos := "law.go:292", after := #[{ on := 26, ground := Go.Ground.data }, { on := 25, ground := Go.Ground.chain }, { on := 25, ground := Go.Ground.guard }], guard := some (25, true) }) rfl (fun K hK => ?_) AllReadyH.nil
                    go_simp
                    refine H1.out.mono ?_
                    rintro e w7 ⟨A3, cap3, rfl, own3, hb7⟩
                    have S8 := Lib.hid (S7.out.newRow hb7 own3)
                    have Z2 := RfS.of hbx S8.out 1 3 (by simp) (by simp) rfl rfl
                    try go_simp
                    refine hK.out _ _ Z2 (fun hHeld => ?_)
                    clear hK K
                    try simp only [Act.put, List.setIfInBounds_toArray, List.set_cons_zero, List.set_cons_succ]
                    refine wpAnyH_ready (rs := [29]) (by kernel_rfl) (by simp) ?_
                    refine AllReadyH.cons (o := { dst := some 179, op := Go.Op.call { callee := Go.Callee.value (Go.Operand.func 26), args := #[Go.Operand.tmp 177, Go.Operand.tmp 178], argTypes := #[36, 36] }, type := 4, pos := "law.go:292", after := #[{ on := 27, ground := Go.Ground.data }, { on := 28, ground := Go.Ground.data }, { on := 27, ground := Go.Ground.chain }, { on := 25, ground := Go.Ground.guard }], guard := some (25, true) }) rfl (fun K hK => ?_) AllReadyH.nil
                    go_simp
                    have T1 := Tab.of_own HM.out.symm (S8.out.row 0 (by simp) rfl)
                    have T2 := Tab.of_own HM.out.symm (S8.out.row 2 (by simp) rfl)
                    refine (HSM.out A3 cap3 _ T1 T2).mono ?_
                    rintro e w8 ⟨rfl, hb8⟩
                    clear T1 T2
                    have S9b := Lib.hid (S8.out.below hb8)
                    have Z3 := RfS.of hbx S9b.out 1 3 (by simp) (by simp) rfl rfl
                    try go_simp
                    refine hK.out _ _ Z3 (fun hHeld => ?_)
                    clear hK K
                    try simp only [Act.put, List.setIfInBounds_toArray, List.set_cons_zero, List.set_cons_succ]
                    refine wpAnyH_take (i := 30) (oi := { dst := some 180, op := Go.Op.unOp Go.UnOp.not 4 (Go.Operand.tmp 179), type := 4, pos := "law.go:292", after := #[{ on := 29, ground := Go.Ground.data }, { on := 25, ground := Go.Ground.guard }], guard := some (25, true) }) (v := ?_) rfl (by kernel_rfl) (by kernel_rfl) (by kernel_rfl) (fun _ _ _ h => h) (Or.inl ⟨by rfl, ?_⟩) hHeld ?_
                    rotate_left
                    · intro W hSw
                      try dsimp only at hSw
                      go_simp
                      try with_reducible rfl
                    try simp only [Act.put, List.setIfInBounds_toArray, List.set_cons_zero, List.set_cons_succ]
                    refine wpAnyH_take (i := 31) (oi := { dst := some 181, op := Go.Op.move (Go.Operand.tmp 180), type := 4, pos := "law.go:292", after := #[{ on := 30, ground := Go.Ground.data }, { on := 29, ground := Go.Ground.chain }, { on := 25, ground := Go.Ground.guard }], guard := some (25, true) }) (v := ?_) rfl (by kernel_rfl) (by kernel_rfl) (by kernel_rfl) (fun _ _ _ h => h) (Or.inl ⟨by rfl, ?_⟩) hHeld ?_
                    rotate_left
                    · intro W hSw
                      try dsimp only at hSw
                      go_simp
                      try with_reducible rfl
                    try simp only [Act.put, List.setIfInBounds_toArray, List.set_cons_zero, List.set_cons_succ]
                    refine wpAnyH_take (i := 32) (oi := { dst := some 182, op := Go.Op.move (Go.Operand.tmp 4), type := 29, pos := "law.go:292", after := #[{ on := 31, ground := Go.Ground.guard }], guard := some (31, false) }) (v := ?_) rfl (by kernel_rfl) (by kernel_rfl) (by kernel_rfl) (fun _ _ _ h => h) (Or.inl ⟨by rfl, ?_⟩) hHeld ?_
                    rotate_left
                    · intro W hSw
                      try dsimp only at hSw
                      go_simp
                      try with_reducible rfl
                    try simp only [Act.put, List.setIfInBounds_toArray, List.set_cons_zero, List.set_cons_succ]
                    refine wpAnyH_take (i := 34) (oi := { dst := some 184, op := Go.Op.load 69 (Go.Operand.tmp 12), type := 69, pos := "law.go:292", after := #[{ on := 31, ground := Go.Ground.guard }], guard := some (31, false) }) (v := ?_) rfl (by kernel_rfl) (by kernel_rfl) (by kernel_rfl) (fun _ _ _ h => h) (Or.inl ⟨by rfl, ?_⟩) hHeld ?_
                    rotate_left
                    · intro W hSw
                      try dsimp only at hSw
                      go_simp
                      try with_reducible rfl
                    try simp only [Act.put, List.setIfInBounds_toArray, List.set_cons_zero, List.set_cons_succ]
                    refine wpAnyH_ready (rs := [33]) (by kernel_rfl) (by simp) ?_
                    refine AllReadyH.cons (o := { dst := some 183, op := Go.Op.call { callee := Go.Callee.value (Go.Operand.func 24), args := #[Go.Operand.tmp 182], argTypes := #[29] }, type := 69, pos := "law.go:292", after := #[{ on := 32, ground := Go.Ground.data }, { on := 31, ground := Go.Ground.chain }, { on := 31, ground := Go.Ground.guard }], guard := some (31, false) }) rfl (fun K hK => ?_) AllReadyH.nil
                    go_simp
                    refine (S9b.out.back 4 (by simp) rfl).mono ?_
                    rintro e w9 ⟨rfl, hb9⟩
                    have S10 := Lib.hid (S9b.out.below hb9)
                    have Z4 := RfS.of hbx S10.out 1 3 (by simp) (by simp) rfl rfl
                    try go_simp
                    refine hK.out _ _ Z4 (fun hHeld => ?_)
                    clear hK K
                    try simp only [Act.put, List.setIfInBounds_toArray, List.set_cons_zero, List.set_cons_succ]
                    refine wpAnyH_take (i := 35) (oi := { dst := some 185, op := Go.Op.binOp Go.BinOp.neq 69 (Go.Operand.tmp 183) (Go.Operand.tmp 184) 69, type := 4, pos := "law.go:292", after := #[{ on := 33, ground := Go.Ground.data }, { on := 34, ground := Go.Ground.data }, { on := 31, ground := Go.Ground.guard }], guard := some (31, false) }) (v := ?_) rfl (by kernel_rfl) (by kernel_rfl) (by kernel_rfl) (fun _ _ _ h => h) (Or.inl ⟨by rfl, ?_⟩) hHeld ?_
                    rotate_left
                    · intro W hSw
                      try dsimp only at hSw
                      go_simp
                      try with_reducible rfl
                    try simp only [Act.put, List.setIfInBounds_toArray, List.set_cons_zero, List.set_cons_succ]
                    refine wpAnyH_take (i := 36) (oi := { dst := some 186, op := Go.Op.pick (Go.Operand.tmp 181) (Go.Operand.const (Go.Value.bool true)) (Go.Operand.tmp 185), type := 4, pos := "law.go:292", after := #[{ on := 31, ground := Go.Ground.data }, { on := 35, ground := Go.Ground.data }, { on := 25, ground := Go.Ground.guard }], guard := some (25, true) }) (v := ?_) rfl (by kernel_rfl) (by kernel_rfl) (by kernel_rfl) (fun _ _ _ h => h) (Or.inl ⟨by rfl, ?_⟩) hHeld ?_
                    rotate_left
                    · intro W hSw
                      try dsimp only at hSw
                      go_simp
                      try with_reducible rfl
                    try simp only [Act.put, List.setIfInBounds_toArray, List.set_cons_zero, List.set_cons_succ]
                    refine wpAnyH_take (i := 37) (oi := { dst := some 187, op := Go.Op.pick (Go.Operand.tmp 175) (Go.Operand.tmp 186) (Go.Operand.const (Go.Value.bool false)), type := 4, pos := "law.go:292", after := #[{ on := 25, ground := Go.Ground.data }, { on := 36, ground := Go.Ground.data }, { on := 22, ground := Go.Ground.guard }], guard := some (22, false) }) (v := ?_) rfl (by kernel_rfl) (by kernel_rfl) (by kernel_rfl) (fun _ _ _ h => h) (Or.inl ⟨by rfl, ?_⟩) hHeld ?_
                    rotate_left
                    · intro W hSw
                      try dsimp only at hSw
                      go_simp
                      try with_reducible rfl
                    try simp only [Act.put, List.setIfInBounds_toArray, List.set_cons_zero, List.set_cons_succ]
                    refine wpAnyH_take (i := 38) (oi := { dst := some 188, op := Go.Op.pick (Go.Operand.tmp 172) (Go.Operand.const (Go.Value.bool true)) (Go.Operand.tmp 187), type := 4, pos := "law.go:292", after := #[{ on := 22, ground := Go.Ground.data }, { on := 37, ground := Go.Ground.data }], guard := none }) (v := ?_) rfl (by kernel_rfl) (by kernel_rfl) (by kernel_rfl) (fun _ _ _ h => h) (Or.inl ⟨by rfl, ?_⟩) hHeld ?_
                    rotate_left
                    · intro W hSw
                      try dsimp only at hSw
                      go_simp
                      try with_reducible rfl
                    try simp only [Act.put, List.setIfInBounds_toArray, List.set_cons_zero, List.set_cons_succ]
                    refine wpAnyH_take (i := 39) (oi := { dst := some 189, op := Go.Op.move (Go.Operand.tmp 188), type := 4, pos := "law.go:292", after := #[{ on := 38, ground := Go.Ground.data }, { on := 33, ground := Go.Ground.chain }], guard := none }) (v := ?_) rfl (by kernel_rfl) (by kernel_rfl) (by kernel_rfl) (fun _ _ _ h => h) (Or.inl ⟨by rfl, ?_⟩) hHeld ?_
                    rotate_left
                    · intro W hSw
                      try dsimp only at hSw
                      go_simp
                      try with_reducible rfl
                    try simp only [Act.put, List.setIfInBounds_toArray, List.set_cons_zero, List.set_cons_succ]
                    refine wpAnyH_take (i := 40) (oi := { dst := some 190, op := Go.Op.move (Go.Operand.tmp 3), type := 25, pos := "law.go:292", after := #[{ on := 39, ground := Go.Ground.guard }], guard := some (39, false) }) (v := ?_) rfl (by kernel_rfl) (by kernel_rfl) (by kernel_rfl) (fun _ _ _ h => h) (Or.inl ⟨by rfl, ?_⟩) hHeld ?_
                    rotate_left
                    · intro W hSw
                      try dsimp only at hSw
                      go_simp
                      try with_reducible rfl
                    try simp only [Act.put, List.setIfInBounds_toArray, List.set_cons_zero, List.set_cons_succ]
                    refine wpAnyH_take (i := 42) (oi := { dst := some 192, op := Go.Op.move (Go.Operand.tmp 9), type := 9, pos := "law.go:292", after := #[{ on := 39, ground := Go.Ground.guard }], guard := some (39, false) }) (v := ?_) rfl (by kernel_rfl) (by kernel_rfl) (by kernel_rfl) (fun _ _ _ h => h) (Or.inl ⟨by rfl, ?_⟩) hHeld ?_
                    rotate_left
                    · intro W hSw
                      try dsimp only at hSw
                      go_simp
                      try with_reducible rfl
                    try simp only [Act.put, List.setIfInBounds_toArray, List.set_cons_zero, List.set_cons_succ]
                    refine wpAnyH_ready (rs := [41]) (by kernel_rfl) (by simp) ?_
                    refine AllReadyH.cons (o := { dst := some 191, op := Go.Op.call { callee := Go.Callee.value (Go.Operand.func 23), args := #[Go.Operand.tmp 190], argTypes := #[25] }, type := 9, pos := "law.go:292", after := #[{ on := 40, ground := Go.Ground.data }, { on := 39, ground := Go.Ground.chain }, { on := 39, ground := Go.Ground.guard }], guard := some (39, false) }) rfl (fun K hK => ?_) AllReadyH.nil
                    go_simp
                    have HIM := S10.out.image 4 (by simp) rfl
                    rw [HS9.out] at HIM
                    refine HIM.mono ?_
                    rintro e wx ⟨rfl, rfl⟩
                    clear HIM
                    try go_simp
                    refine hK.out _ _ Z4 (fun hHeld => ?_)
                    clear hK K
                    try simp only [Act.put, List.setIfInBounds_toArray, List.set_cons_zero, List.set_cons_succ]
                    refine wpAnyH_take (i := 43) (oi := { dst := some 193, op := Go.Op.binOp Go.BinOp.neq 9 (Go.Operand.tmp 191) (Go.Operand.tmp 192) 9, type := 4, pos := "law.go:292", after := #[{ on := 41, ground := Go.Ground.data }, { on := 42, ground := Go.Ground.data }, { on := 39, ground := Go.Ground.guard }], guard := some (39, false) }) (v := ?_) rfl (by kernel_rfl) (by kernel_rfl) (by kernel_rfl) (fun _ _ _ h => h) (Or.inl ⟨by rfl, ?_⟩) hHeld ?_
                    rotate_left
                    · intro W hSw
                      try dsimp only at hSw
                      go_simp
                      try with_reducible rfl
                    try simp only [Act.put, List.setIfInBounds_toArray, List.set_cons_zero, List.set_cons_succ]
                    refine wpAnyH_take (i := 44) (oi := { dst := some 194, op := Go.Op.pick (Go.Operand.tmp 189) (Go.Operand.const (Go.Value.bool true)) (Go.Operand.tmp 193), type := 4, pos := "law.go:292", after := #[{ on := 39, ground := Go.Ground.data }, { on := 43, ground := Go.Ground.data }], guard := none }) (v := ?_) rfl (by kernel_rfl) (by kernel_rfl) (by kernel_rfl) (fun _ _ _ h => h) (Or.inl ⟨by rfl, ?_⟩) hHeld ?_
                    rotate_left
                    · intro W hSw
                      try dsimp only at hSw
                      go_simp
                      try with_reducible rfl
                    try simp only [Act.put, List.setIfInBounds_toArray, List.set_cons_zero, List.set_cons_succ]
                    refine wpAnyH_done (by kernel_rfl) ?_ _
                    go_wp2_with fail
                    go_roundw
                    case rel => exact ⟨k + 1, xs, q, by omega, by go_num, hx, Hok.out, hr0.out, hz0.out, by omega, St.pop (St.pop (St.pop (St.pop S10.out)))⟩
                    case measure => have := Hk80.out; simp [intOf]; omega
            · have HR1 := Lib.hid (HRP _ hr)
              clear HRP hr
              go_wp2_with fail
              refine HR1.out.mono ?_
              rintro e w5 ⟨rfl, S5⟩
              have S5 : St (fun _ => False) w0 (stars [box w3.heap.size 69 #[.int .i64 (q.ba : Int), .bool q.bw], rowA 3 1 (.slice A2 (heldL q.hs).length cap2) (heldL q.hs).length (heldV q.hs), box O 66 #[.int .i64 o.k, .int .i64 o.a, .int .i64 o.id, .int .i64 o.n, .slice o.pA o.pl.length o.pc, .string o.s, .int .i64 o.eo, .bool o.ew, .int .i64 o.ef, .bool o.wr], drvP g gq xs q']) w5 := S5
              have S5 := Lib.hid S5
              clear HR1 RS B4 c1 c2 c3 c4 o0 o1 o2 o3 o4 o5 o6 o7 o8 o9 lt1 lt2 lt3
              obtain ⟨M, hM⟩ : ∃ M, (heldL q.hs).length = M := ⟨_, rfl⟩
              obtain ⟨M2, hM2⟩ : ∃ M2, (heldL q'.hs).length = M2 := ⟨_, rfl⟩
              rw [hM, hM2] at hhl
              have hMI : (heldI q.hs).length = M := by rw [heldI_length]; exact hM
              have hall := hadB_all hmem
              rw [hMI] at hall
              rw [hM] at S5 h128 ⊢
              have Hr' := Lib.hid (show (q'.ring : Int) = r by rw [hring']; exact hr0.out)
              have Hz' := Lib.hid (show (q'.size : Int) = z by rw [hsize']; exact hz0.out)
              have Hs' := Lib.hid (show q'.since ≤ 64 * (k + 1) by omega)
              have Hall := Lib.hid hall
              have Hok' := Lib.hid hok'
              clear hring' hsize' hsi' hmem hall hok' hHl
              go_wp2_with fail
              go_loopw [19, 20] (fun hv jv wl => ∃ j : Nat, j ≤ M ∧ jv = .int .i64 (j : Int) ∧ hv = .bool (hadB (heldI q.hs) (id : Int) j) ∧ St (fun _ => False) w0 (stars [box w3.heap.size 69 #[.int .i64 (q.ba : Int), .bool q.bw], rowA 3 1 (.slice A2 M cap2) M (heldV q.hs), box O 66 #[.int .i64 o.k, .int .i64 o.a, .int .i64 o.id, .int .i64 o.n, .slice o.pA o.pl.length o.pc, .string o.s, .int .i64 o.eo, .bool o.ew, .int .i64 o.ef, .bool o.wr], drvP g gq xs q']) wl) (fun _ jv _ => M - (intOf jv).toNat)
              case atStart => exact ⟨0, Nat.zero_le _, rfl, rfl, S5.out⟩
              case round =>
                obtain ⟨j, hj, rfl, rfl, S6⟩ := hrel
                clear S5
                by_cases hjM : j < M
                · have q1 : (j : Int) < (M : Int) := by omega
                  have q2 : (0 : Int) ≤ (j : Int) := by omega
                  obtain ⟨b2, off2, X, rfl, hX, hc⟩ := (Tab.of_own hM.symm (S6.row 1 (by simp) rfl)).at j (by omega)
                  have HJ := Lib.hid hjM
                  have hn := hadB_succ (id := (id : Int)) (by omega) hX
                  obtain ⟨h, hh⟩ : ∃ h, hadB (heldI q.hs) (id : Int) j = h := ⟨_, rfl⟩
                  rw [hh] at hn ⊢
                  obtain ⟨v, hv⟩ : ∃ v, (X == (id : Int)) = v := ⟨_, rfl⟩
                  rw [hv] at hn
                  have Hn := Lib.hid hn
                  have S6 := Lib.hid S6
                  clear hX hn hh
                  cases h
                  · go_wp2_with fail
                    go_roundw
                    case rel => exact ⟨j + 1, by have := HJ.out; omega, by go_num, by rw [Hn.out]; rfl, S6.out⟩
                    case measure => have := HJ.out; simp [intOf]; omega
                  · go_wp2_with fail
                    go_roundw
                    case rel => exact ⟨j + 1, by have := HJ.out; omega, by go_num, by rw [Hn.out]; rfl, S6.out⟩
                    case measure => have := HJ.out; simp [intOf]; omega
                · have q1 : ¬ (j : Int) < (M : Int) := by omega
                  obtain rfl : j = M := by omega
                  rw [Hall.out]
                  have S7 := S6.drew
                  have H1 := S7.held 3 (by simp) rfl Hok'.out
                  unfold HeldP at H1
                  rw [hM2] at H1
                  have X1 := Lib.hid (RfS.of hbx S7 0 2 (by simp) (by simp) rfl rfl)
                  have H1 := Lib.hid H1
                  have S7 := Lib.hid S7
                  have v1 : IntKind.i64.wrap ((j : Int) - 1) = (M2 : Int) := by rw [IntWalk.i64_in _ (by omega)]; omega
                  have v3 : ((M2 : Int) != (M2 : Int)) = false := by simp
                  have v6 : (S9.toList == S9.toList) = true := by simp
                  have v7 : IntKind.i64.wrap (M2 : Int) = (M2 : Int) := IntWalk.i64_in _ (by omega)
                  have v8 : IntKind.i64.wrap (j : Int) = (j : Int) := IntWalk.i64_in _ (by omega)
                  have S6 := Lib.hid S6
                  clear hM2 hMI hM
                  go_wp2_with fail
                  refine wp_region_held_drew (S := (fun W => (W.cell? ⟨g0, 1, none⟩ = some (.int .i64 r) ∧ W.cell? ⟨g0, 2, none⟩ = some (.int .i64 z) ∧ W.cell? ⟨w3.heap.size, 0, none⟩ = some (.int .i64 (q.ba : Int)) ∧ W.cell? ⟨w3.heap.size, 1, none⟩ = some (.bool q.bw) ∧ W.cell? ⟨O, 0, none⟩ = some (.int .i64 o.k) ∧ W.cell? ⟨O, 1, none⟩ = some (.int .i64 o.a) ∧ W.cell? ⟨O, 2, none⟩ = some (.int .i64 o.id) ∧ W.cell? ⟨O, 3, none⟩ = some (.int .i64 o.n) ∧ W.cell? ⟨O, 4, none⟩ = some (.slice o.pA o.pl.length o.pc) ∧ W.cell? ⟨O, 5, none⟩ = some (.string o.s) ∧ W.cell? ⟨O, 6, none⟩ = some (.int .i64 o.eo) ∧ W.cell? ⟨O, 7, none⟩ = some (.bool o.ew) ∧ W.cell? ⟨O, 8, none⟩ = some (.int .i64 o.ef) ∧ W.cell? ⟨O, 9, none⟩ = some (.bool o.wr)) ∧ (g0 < W.heap.size ∧ w3.heap.size < W.heap.size ∧ O < W.heap.size) ∧ ∃ l, St (fun _ => False) w0 (stars l) W)) (by kernel_rfl) X1.out (fun hHeld => ?_)
                  refine wpAnyH_take (i := 0) (oi := { dst := some 150, op := Go.Op.move (Go.Operand.tmp 17), type := 4, pos := "law.go:292", after := #[], guard := none }) (v := ?_) rfl (by kernel_rfl) (by kernel_rfl) (by kernel_rfl) (fun _ _ _ h => h) (Or.inl ⟨by rfl, ?_⟩) hHeld ?_
                  rotate_left
                  · intro W hSw
                    try dsimp only at hSw
                    go_simp
                    try with_reducible rfl
                  try simp only [Act.put, List.setIfInBounds_toArray, List.set_cons_zero, List.set_cons_succ]
                  refine wpAnyH_take (i := 1) (oi := { dst := some 151, op := Go.Op.move (Go.Operand.tmp 19), type := 4, pos := "law.go:292", after := #[], guard := none }) (v := ?_) rfl (by kernel_rfl) (by kernel_rfl) (by kernel_rfl) (fun _ _ _ h => h) (Or.inl ⟨by rfl, ?_⟩) hHeld ?_
                  rotate_left
                  · intro W hSw
                    try dsimp only at hSw
                    go_simp
                    try with_reducible rfl
                  try simp only [Act.put, List.setIfInBounds_toArray, List.set_cons_zero, List.set_cons_succ]
                  refine wpAnyH_take (i := 2) (oi := { dst := some 152, op := Go.Op.binOp Go.BinOp.neq 4 (Go.Operand.tmp 150) (Go.Operand.tmp 151) 4, type := 4, pos := "law.go:292", after := #[{ on := 0, ground := Go.Ground.data }, { on := 1, ground := Go.Ground.data }], guard := none }) (v := ?_) rfl (by kernel_rfl) (by kernel_rfl) (by kernel_rfl) (fun _ _ _ h => h) (Or.inl ⟨by rfl, ?_⟩) hHeld ?_
                  rotate_left
                  · intro W hSw
                    try dsimp only at hSw
                    go_simp
                    try with_reducible rfl
                  try simp only [Act.put, List.setIfInBounds_toArray, List.set_cons_zero, List.set_cons_succ]
                  refine wpAnyH_take (i := 3) (oi := { dst := some 153, op := Go.Op.move (Go.Operand.tmp 152), type := 4, pos := "law.go:292", after := #[{ on := 2, ground := Go.Ground.data }], guard := none }) (v := ?_) rfl (by kernel_rfl) (by kernel_rfl) (by kernel_rfl) (fun _ _ _ h => h) (Or.inl ⟨by rfl, ?_⟩) hHeld ?_
                  rotate_left
                  · intro W hSw
                    try dsimp only at hSw
                    go_simp
                    try with_reducible rfl
                  try simp only [Act.put, List.setIfInBounds_toArray, List.set_cons_zero, List.set_cons_succ]
                  refine wpAnyH_take (i := 4) (oi := { dst := some 154, op := Go.Op.move (Go.Operand.tmp 17), type := 4, pos := "law.go:292", after := #[{ on := 3, ground := Go.Ground.guard }], guard := some (3, true) }) (v := undef) rfl (by kernel_rfl) (by kernel_rfl) (by kernel_rfl) (fun _ _ _ h => h) (Or.inr ⟨by rfl, rfl⟩) hHeld ?_
                  try simp only [Act.put, List.setIfInBounds_toArray, List.set_cons_zero, List.set_cons_succ]
                  refine wpAnyH_take (i := 5) (oi := { dst := some 155, op := Go.Op.pick (Go.Operand.tmp 153) (Go.Operand.tmp 154) (Go.Operand.const (Go.Value.bool false)), type := 4, pos := "law.go:292", after := #[{ on := 3, ground := Go.Ground.data }, { on := 4, ground := Go.Ground.data }], guard := none }) (v := ?_) rfl (by kernel_rfl) (by kernel_rfl) (by kernel_rfl) (fun _ _ _ h => h) (Or.inl ⟨by rfl, ?_⟩) hHeld ?_
                  rotate_left
                  · intro W hSw
                    try dsimp only at hSw
                    go_simp
                    try with_reducible rfl
                  try simp only [Act.put, List.setIfInBounds_toArray, List.set_cons_zero, List.set_cons_succ]
                  refine wpAnyH_take (i := 6) (oi := { dst := some 156, op := Go.Op.move (Go.Operand.tmp 155), type := 4, pos := "law.go:292", after := #[{ on := 5, ground := Go.Ground.data }, { on := 3, ground := Go.Ground.chain }], guard := none }) (v := ?_) rfl (by kernel_rfl) (by kernel_rfl) (by kernel_rfl) (fun _ _ _ h => h) (Or.inl ⟨by rfl, ?_⟩) hHeld ?_
                  rotate_left
                  · intro W hSw
                    try dsimp only at hSw
                    go_simp
                    try with_reducible rfl
                  try simp only [Act.put, List.setIfInBounds_toArray, List.set_cons_zero, List.set_cons_succ]
                  refine wpAnyH_take (i := 7) (oi := { dst := some 157, op := Go.Op.move (Go.Operand.tmp 17), type := 4, pos := "law.go:292", after := #[{ on := 6, ground := Go.Ground.guard }], guard := some (6, false) }) (v := ?_) rfl (by kernel_rfl) (by kernel_rfl) (by kernel_rfl) (fun _ _ _ h => h) (Or.inl ⟨by rfl, ?_⟩) hHeld ?_
                  rotate_left
                  · intro W hSw
                    try dsimp only at hSw
                    go_simp
                    try with_reducible rfl
                  try simp only [Act.put, List.setIfInBounds_toArray, List.set_cons_zero, List.set_cons_succ]
                  refine wpAnyH_take (i := 8) (oi := { dst := some 158, op := Go.Op.move (Go.Operand.tmp 157), type := 4, pos := "law.go:292", after := #[{ on := 7, ground := Go.Ground.data }, { on := 6, ground := Go.Ground.chain }, { on := 6, ground := Go.Ground.guard }], guard := some (6, false) }) (v := ?_) rfl (by kernel_rfl) (by kernel_rfl) (by kernel_rfl) (fun _ _ _ h => h) (Or.inl ⟨by rfl, ?_⟩) hHeld ?_
                  rotate_left
                  · intro W hSw
                    try dsimp only at hSw
                    go_simp
                    try with_reducible rfl
                  try simp only [Act.put, List.setIfInBounds_toArray, List.set_cons_zero, List.set_cons_succ]
                  refine wpAnyH_take (i := 9) (oi := { dst := some 159, op := Go.Op.move (Go.Operand.tmp 18), type := 26, pos := "law.go:292", after := #[{ on := 8, ground := Go.Ground.guard }], guard := some (8, true) }) (v := ?_) rfl (by kernel_rfl) (by kernel_rfl) (by kernel_rfl) (fun _ _ _ h => h) (Or.inl ⟨by rfl, ?_⟩) hHeld ?_
                  rotate_left
                  · intro W hSw
                    try dsimp only at hSw
                    go_simp
                    try with_reducible rfl
                  try simp only [Act.put, List.setIfInBounds_toArray, List.set_cons_zero, List.set_cons_succ]
                  refine wpAnyH_take (i := 10) (oi := { dst := some 160, op := Go.Op.binOp Go.BinOp.neq 26 (Go.Operand.tmp 159) (Go.Operand.const (Go.Value.int Go.IntKind.i64 0)) 26, type := 4, pos := "law.go:292", after := #[{ on := 9, ground := Go.Ground.data }, { on := 8, ground := Go.Ground.guard }], guard := some (8, true) }) (v := ?_) rfl (by kernel_rfl) (by kernel_rfl) (by kernel_rfl) (fun _ _ _ h => h) (Or.inl ⟨by rfl, ?_⟩) hHeld ?_
                  rotate_left
                  · intro W hSw
                    try dsimp only at hSw
                    go_simp
                    try with_reducible rfl
                  try simp only [Act.put, List.setIfInBounds_toArray, List.set_cons_zero, List.set_cons_succ]
                  refine wpAnyH_take (i := 11) (oi := { dst := some 161, op := Go.Op.move (Go.Operand.tmp 160), type := 4, pos := "law.go:292", after := #[{ on := 10, ground := Go.Ground.data }, { on := 8, ground := Go.Ground.chain }, { on := 8, ground := Go.Ground.guard }], guard := some (8, true) }) (v := ?_) rfl (by kernel_rfl) (by kernel_rfl) (by kernel_rfl) (fun _ _ _ h => h) (Or.inl ⟨by rfl, ?_⟩) hHeld ?_
                  rotate_left
                  · intro W hSw
                    try dsimp only at hSw
                    go_simp
                    try with_reducible rfl
                  try simp only [Act.put, List.setIfInBounds_toArray, List.set_cons_zero, List.set_cons_succ]
                  refine wpAnyH_take (i := 12) (oi := { dst := some 162, op := Go.Op.move (Go.Operand.tmp 4), type := 29, pos := "law.go:292", after := #[{ on := 11, ground := Go.Ground.guard }], guard := some (11, false) }) (v := ?_) rfl (by kernel_rfl) (by kernel_rfl) (by kernel_rfl) (fun _ _ _ h => h) (Or.inl ⟨by rfl, ?_⟩) hHeld ?_
                  rotate_left
                  · intro W hSw
                    try dsimp only at hSw
                    go_simp
                    try with_reducible rfl
                  try simp only [Act.put, List.setIfInBounds_toArray, List.set_cons_zero, List.set_cons_succ]
                  refine wpAnyH_take (i := 15) (oi := { dst := some 165, op := Go.Op.move (Go.Operand.tmp 11), type := 36, pos := "law.go:292", after := #[{ on := 11, ground := Go.Ground.guard }], guard := some (11, false) }) (v := ?_) rfl (by kernel_rfl) (by kernel_rfl) (by kernel_rfl) (fun _ _ _ h => h) (Or.inl ⟨by rfl, ?_⟩) hHeld ?_
                  rotate_left
                  · intro W hSw
                    try dsimp only at hSw
                    go_simp
                    try with_reducible rfl
                  try simp only [Act.put, List.setIfInBounds_toArray, List.set_cons_zero, List.set_cons_succ]
                  refine wpAnyH_take (i := 16) (oi := { dst := some 166, op := Go.Op.call { callee := Go.Callee.builtin Go.Builtin.len, args := #[Go.Operand.tmp 165], argTypes := #[36] }, type := 3, pos := "law.go:292", after := #[{ on := 15, ground := Go.Ground.data }, { on := 11, ground := Go.Ground.guard }], guard := some (11, false) }) (v := ?_) rfl (by kernel_rfl) (by kernel_rfl) (by kernel_rfl) (fun _ _ _ h => h) (Or.inl ⟨by rfl, ?_⟩) hHeld ?_
                  rotate_left
                  · intro W hSw
                    try dsimp only at hSw
                    go_simp
                    try with_reducible rfl
                  try simp only [Act.put, List.setIfInBounds_toArray, List.set_cons_zero, List.set_cons_succ]
                  refine wpAnyH_take (i := 17) (oi := { dst := some 167, op := Go.Op.binOp Go.BinOp.sub 3 (Go.Operand.tmp 166) (Go.Operand.const (Go.Value.int Go.IntKind.i64 1)) 3, type := 3, pos := "law.go:292", after := #[{ on := 16, ground := Go.Ground.data }, { on := 11, ground := Go.Ground.guard }], guard := some (11, false) }) (v := ?_) rfl (by kernel_rfl) (by kernel_rfl) (by kernel_rfl) (fun _ _ _ h => h) (Or.inl ⟨by rfl, ?_⟩) hHeld ?_
                  rotate_left
                  · intro W hSw
                    try dsimp only at hSw
                    go_simp
                    try with_reducible rfl
                  try simp only [Act.put, List.setIfInBounds_toArray, List.set_cons_zero, List.set_cons_succ]
                  refine wpAnyH_ready (rs := [13]) (by kernel_rfl) (by simp) ?_
                  refine AllReadyH.cons (o := { dst := some 163, op := Go.Op.call { callee := Go.Callee.value (Go.Operand.func 19), args := #[Go.Operand.tmp 162], argTypes := #[29] }, type := 36, pos := "law.go:292", after := #[{ on := 12, ground := Go.Ground.data }, { on := 11, ground := Go.Ground.chain }, { on := 11, ground := Go.Ground.guard }], guard := some (11, false) }) rfl (fun K hK => ?_) AllReadyH.nil
                  go_simp
                  refine H1.out.mono ?_
                  rintro e w7 ⟨A3, cap3, rfl, own3, hb7⟩
                  have S8 := Lib.hid (S7.out.newRow hb7 own3)
                  have Z2 := RfS.of hbx S8.out 1 3 (by simp) (by simp) rfl rfl
                  try go_simp
                  refine hK.out _ _ Z2 (fun hHeld => ?_)
                  clear hK K
                  try simp only [Act.put, List.setIfInBounds_toArray, List.set_cons_zero, List.set_cons_succ]
                  refine wpAnyH_take (i := 14) (oi := { dst := some 164, op := Go.Op.call { callee := Go.Callee.builtin Go.Builtin.len, args := #[Go.Operand.tmp 163], argTypes := #[36] }, type := 3, pos := "law.go:292", after := #[{ on := 13, ground := Go.Ground.data }, { on := 11, ground := Go.Ground.guard }], guard := some (11, false) }) (v := ?_) rfl (by kernel_rfl) (by kernel_rfl) (by kernel_rfl) (fun _ _ _ h => h) (Or.inl ⟨by rfl, ?_⟩) hHeld ?_
                  rotate_left
                  · intro W hSw
                    try dsimp only at hSw
                    go_simp
                    try with_reducible rfl
                  try simp only [Act.put, List.setIfInBounds_toArray, List.set_cons_zero, List.set_cons_succ]
                  refine wpAnyH_take (i := 18) (oi := { dst := some 168, op := Go.Op.binOp Go.BinOp.neq 3 (Go.Operand.tmp 164) (Go.Operand.tmp 167) 3, type := 4, pos := "law.go:292", after := #[{ on := 14, ground := Go.Ground.data }, { on := 17, ground := Go.Ground.data }, { on := 11, ground := Go.Ground.guard }], guard := some (11, false) }) (v := ?_) rfl (by kernel_rfl) (by kernel_rfl) (by kernel_rfl) (fun _ _ _ h => h) (Or.inl ⟨by rfl, ?_⟩) hHeld ?_
                  rotate_left
                  · intro W hSw
                    try dsimp only at hSw
                    go_simp
                    try with_reducible rfl
                  try simp only [Act.put, List.setIfInBounds_toArray, List.set_cons_zero, List.set_cons_succ]
                  refine wpAnyH_take (i := 19) (oi := { dst := some 169, op := Go.Op.pick (Go.Operand.tmp 161) (Go.Operand.const (Go.Value.bool true)) (Go.Operand.tmp 168), type := 4, pos := "law.go:292", after := #[{ on := 11, ground := Go.Ground.data }, { on := 18, ground := Go.Ground.data }, { on := 8, ground := Go.Ground.guard }], guard := some (8, true) }) (v := ?_) rfl (by kernel_rfl) (by kernel_rfl) (by kernel_rfl) (fun _ _ _ h => h) (Or.inl ⟨by rfl, ?_⟩) hHeld ?_
                  rotate_left
                  · intro W hSw
                    try dsimp only at hSw
                    go_simp
                    try with_reducible rfl
                  try simp only [Act.put, List.setIfInBounds_toArray, List.set_cons_zero, List.set_cons_succ]
                  refine wpAnyH_take (i := 20) (oi := { dst := some 170, op := Go.Op.pick (Go.Operand.tmp 158) (Go.Operand.tmp 169) (Go.Operand.const (Go.Value.bool false)), type := 4, pos := "law.go:292", after := #[{ on := 8, ground := Go.Ground.data }, { on := 19, ground := Go.Ground.data }, { on := 6, ground := Go.Ground.guard }], guard := some (6, false) }) (v := ?_) rfl (by kernel_rfl) (by kernel_rfl) (by kernel_rfl) (fun _ _ _ h => h) (Or.inl ⟨by rfl, ?_⟩) hHeld ?_
                  rotate_left
                  · intro W hSw
                    try dsimp only at hSw
                    go_simp
                    try with_reducible rfl
                  try simp only [Act.put, List.setIfInBounds_toArray, List.set_cons_zero, List.set_cons_succ]
                  refine wpAnyH_take (i := 21) (oi := { dst := some 171, op := Go.Op.pick (Go.Operand.tmp 156) (Go.Operand.const (Go.Value.bool true)) (Go.Operand.tmp 170), type := 4, pos := "law.go:292", after := #[{ on := 6, ground := Go.Ground.data }, { on := 20, ground := Go.Ground.data }], guard := none }) (v := ?_) rfl (by kernel_rfl) (by kernel_rfl) (by kernel_rfl) (fun _ _ _ h => h) (Or.inl ⟨by rfl, ?_⟩) hHeld ?_
                  rotate_left
                  · intro W hSw
                    try dsimp only at hSw
                    go_simp
                    try with_reducible rfl
                  try simp only [Act.put, List.setIfInBounds_toArray, List.set_cons_zero, List.set_cons_succ]
                  refine wpAnyH_take (i := 22) (oi := { dst := some 172, op := Go.Op.move (Go.Operand.tmp 171), type := 4, pos := "law.go:292", after := #[{ on := 21, ground := Go.Ground.data }, { on := 13, ground := Go.Ground.chain }], guard := none }) (v := ?_) rfl (by kernel_rfl) (by kernel_rfl) (by kernel_rfl) (fun _ _ _ h => h) (Or.inl ⟨by rfl, ?_⟩) hHeld ?_
                  rotate_left
                  · intro W hSw
                    try dsimp only at hSw
                    go_simp
                    try with_reducible rfl
                  try simp only [Act.put, List.setIfInBounds_toArray, List.set_cons_zero, List.set_cons_succ]
                  refine wpAnyH_take (i := 23) (oi := { dst := some 173, op := Go.Op.move (Go.Operand.tmp 17), type := 4, pos := "law.go:292", after := #[{ on := 22, ground := Go.Ground.guard }], guard := some (22, false) }) (v := ?_) rfl (by kernel_rfl) (by kernel_rfl) (by kernel_rfl) (fun _ _ _ h => h) (Or.inl ⟨by rfl, ?_⟩) hHeld ?_
                  rotate_left
                  · intro W hSw
                    try dsimp only at hSw
                    go_simp
                    try with_reducible rfl
                  try simp only [Act.put, List.setIfInBounds_toArray, List.set_cons_zero, List.set_cons_succ]
                  refine wpAnyH_take (i := 24) (oi := { dst := some 174, op := Go.Op.unOp Go.UnOp.not 4 (Go.Operand.tmp 173), type := 4, pos := "law.go:292", after := #[{ on := 23, ground := Go.Ground.data }, { on := 22, ground := Go.Ground.guard }], guard := some (22, false) }) (v := ?_) rfl (by kernel_rfl) (by kernel_rfl) (by kernel_rfl) (fun _ _ _ h => h) (Or.inl ⟨by rfl, ?_⟩) hHeld ?_
                  rotate_left
                  · intro W hSw
                    try dsimp only at hSw
                    go_simp
                    try with_reducible rfl
                  try simp only [Act.put, List.setIfInBounds_toArray, List.set_cons_zero, List.set_cons_succ]
                  refine wpAnyH_take (i := 25) (oi := { dst := some 175, op := Go.Op.move (Go.Operand.tmp 174), type := 4, pos := "law.go:292", after := #[{ on := 24, ground := Go.Ground.data }, { on := 22, ground := Go.Ground.chain }, { on := 22, ground := Go.Ground.guard }], guard := some (22, false) }) (v := ?_) rfl (by kernel_rfl) (by kernel_rfl) (by kernel_rfl) (fun _ _ _ h => h) (Or.inl ⟨by rfl, ?_⟩) hHeld ?_
                  rotate_left
                  · intro W hSw
                    try dsimp only at hSw
                    go_simp
                    try with_reducible rfl
                  try simp only [Act.put, List.setIfInBounds_toArray, List.set_cons_zero, List.set_cons_succ]
                  refine wpAnyH_take (i := 26) (oi := { dst := some 176, op := Go.Op.move (Go.Operand.tmp 4), type := 29, pos := "law.go:292", after := #[{ on := 25, ground := Go.Ground.guard }], guard := some (25, true) }) (v := undef) rfl (by kernel_rfl) (by kernel_rfl) (by kernel_rfl) (fun _ _ _ h => h) (Or.inr ⟨by rfl, rfl⟩) hHeld ?_
                  try simp only [Act.put, List.setIfInBounds_toArray, List.set_cons_zero, List.set_cons_succ]
                  refine wpAnyH_take (i := 28) (oi := { dst := some 178, op := Go.Op.move (Go.Operand.tmp 11), type := 36, pos := "law.go:292", after := #[{ on := 25, ground := Go.Ground.guard }], guard := some (25, true) }) (v := undef) rfl (by kernel_rfl) (by kernel_rfl) (by kernel_rfl) (fun _ _ _ h => h) (Or.inr ⟨by rfl, rfl⟩) hHeld ?_
                  try simp only [Act.put, List.setIfInBounds_toArray, List.set_cons_zero, List.set_cons_succ]
                  refine wpAnyH_ready (rs := [27]) (by kernel_rfl) (by simp) ?_
                  refine AllReadyH.cons (o := { dst := some 177, op := Go.Op.call { callee := Go.Callee.value (Go.Operand.func 19), args := #[Go.Operand.tmp 176], argTypes := #[29] }, type := 36, pos := "law.go:292", after := #[{ on := 26, ground := Go.Ground.data }, { on := 25, ground := Go.Ground.chain }, { on := 25, ground := Go.Ground.guard }], guard := some (25, true) }) rfl (fun K hK => ?_) AllReadyH.nil
                  go_simp
                  refine hK.out _ _ hHeld (fun hHeld => ?_)
                  clear hK K
                  try simp only [Act.put, List.setIfInBounds_toArray, List.set_cons_zero, List.set_cons_succ]
                  refine wpAnyH_ready (rs := [29]) (by kernel_rfl) (by simp) ?_
                  refine AllReadyH.cons (o := { dst := some 179, op := Go.Op.call { callee := Go.Callee.value (Go.Operand.func 26), args := #[Go.Operand.tmp 177, Go.Operand.tmp 178], argTypes := #[36, 36] }, type := 4, pos := "law.go:292", after := #[{ on := 27, ground := Go.Ground.data }, { on := 28, ground := Go.Ground.data }, { on := 27, ground := Go.Ground.chain }, { on := 25, ground := Go.Ground.guard }], guard := some (25, true) }) rfl (fun K hK => ?_) AllReadyH.nil
                  go_simp
                  refine hK.out _ _ hHeld (fun hHeld => ?_)
                  clear hK K
                  try simp only [Act.put, List.setIfInBounds_toArray, List.set_cons_zero, List.set_cons_succ]
                  refine wpAnyH_take (i := 30) (oi := { dst := some 180, op := Go.Op.unOp Go.UnOp.not 4 (Go.Operand.tmp 179), type := 4, pos := "law.go:292", after := #[{ on := 29, ground := Go.Ground.data }, { on := 25, ground := Go.Ground.guard }], guard := some (25, true) }) (v := undef) rfl (by kernel_rfl) (by kernel_rfl) (by kernel_rfl) (fun _ _ _ h => h) (Or.inr ⟨by rfl, rfl⟩) hHeld ?_
                  try simp only [Act.put, List.setIfInBounds_toArray, List.set_cons_zero, List.set_cons_succ]
                  refine wpAnyH_take (i := 31) (oi := { dst := some 181, op := Go.Op.move (Go.Operand.tmp 180), type := 4, pos := "law.go:292", after := #[{ on := 30, ground := Go.Ground.data }, { on := 29, ground := Go.Ground.chain }, { on := 25, ground := Go.Ground.guard }], guard := some (25, true) }) (v := undef) rfl (by kernel_rfl) (by kernel_rfl) (by kernel_rfl) (fun _ _ _ h => h) (Or.inr ⟨by rfl, rfl⟩) hHeld ?_
                  try simp only [Act.put, List.setIfInBounds_toArray, List.set_cons_zero, List.set_cons_succ]
                  refine wpAnyH_take (i := 32) (oi := { dst := some 182, op := Go.Op.move (Go.Operand.tmp 4), type := 29, pos := "law.go:292", after := #[{ on := 31, ground := Go.Ground.guard }], guard := some (31, false) }) (v := undef) rfl (by kernel_rfl) (by kernel_rfl) (by kernel_rfl) (fun _ _ _ h => h) (Or.inr ⟨by rfl, rfl⟩) hHeld ?_
                  try simp only [Act.put, List.setIfInBounds_toArray, List.set_cons_zero, List.set_cons_succ]
                  refine wpAnyH_take (i := 34) (oi := { dst := some 184, op := Go.Op.load 69 (Go.Operand.tmp 12), type := 69, pos := "law.go:292", after := #[{ on := 31, ground := Go.Ground.guard }], guard := some (31, false) }) (v := undef) rfl (by kernel_rfl) (by kernel_rfl) (by kernel_rfl) (fun _ _ _ h => h) (Or.inr ⟨by rfl, rfl⟩) hHeld ?_
                  try simp only [Act.put, List.setIfInBounds_toArray, List.set_cons_zero, List.set_cons_succ]
                  refine wpAnyH_ready (rs := [33]) (by kernel_rfl) (by simp) ?_
                  refine AllReadyH.cons (o := { dst := some 183, op := Go.Op.call { callee := Go.Callee.value (Go.Operand.func 24), args := #[Go.Operand.tmp 182], argTypes := #[29] }, type := 69, pos := "law.go:292", after := #[{ on := 32, ground := Go.Ground.data }, { on := 31, ground := Go.Ground.chain }, { on := 31, ground := Go.Ground.guard }], guard := some (31, false) }) rfl (fun K hK => ?_) AllReadyH.nil
                  go_simp
                  refine hK.out _ _ hHeld (fun hHeld => ?_)
                  clear hK K
                  try simp only [Act.put, List.setIfInBounds_toArray, List.set_cons_zero, List.set_cons_succ]
                  refine wpAnyH_take (i := 35) (oi := { dst := some 185, op := Go.Op.binOp Go.BinOp.neq 69 (Go.Operand.tmp 183) (Go.Operand.tmp 184) 69, type := 4, pos := "law.go:292", after := #[{ on := 33, ground := Go.Ground.data }, { on := 34, ground := Go.Ground.data }, { on := 31, ground := Go.Ground.guard }], guard := some (31, false) }) (v := undef) rfl (by kernel_rfl) (by kernel_rfl) (by kernel_rfl) (fun _ _ _ h => h) (Or.inr ⟨by rfl, rfl⟩) hHeld ?_
                  try simp only [Act.put, List.setIfInBounds_toArray, List.set_cons_zero, List.set_cons_succ]
                  refine wpAnyH_take (i := 36) (oi := { dst := some 186, op := Go.Op.pick (Go.Operand.tmp 181) (Go.Operand.const (Go.Value.bool true)) (Go.Operand.tmp 185), type := 4, pos := "law.go:292", after := #[{ on := 31, ground := Go.Ground.data }, { on := 35, ground := Go.Ground.data }, { on := 25, ground := Go.Ground.guard }], guard := some (25, true) }) (v := undef) rfl (by kernel_rfl) (by kernel_rfl) (by kernel_rfl) (fun _ _ _ h => h) (Or.inr ⟨by rfl, rfl⟩) hHeld ?_
                  try simp only [Act.put, List.setIfInBounds_toArray, List.set_cons_zero, List.set_cons_succ]
                  refine wpAnyH_take (i := 37) (oi := { dst := some 187, op := Go.Op.pick (Go.Operand.tmp 175) (Go.Operand.tmp 186) (Go.Operand.const (Go.Value.bool false)), type := 4, pos := "law.go:292", after := #[{ on := 25, ground := Go.Ground.data }, { on := 36, ground := Go.Ground.data }, { on := 22, ground := Go.Ground.guard }], guard := some (22, false) }) (v := ?_) rfl (by kernel_rfl) (by kernel_rfl) (by kernel_rfl) (fun _ _ _ h => h) (Or.inl ⟨by rfl, ?_⟩) hHeld ?_
                  rotate_left
                  · intro W hSw
                    try dsimp only at hSw
                    go_simp
                    try with_reducible rfl
                  try simp only [Act.put, List.setIfInBounds_toArray, List.set_cons_zero, List.set_cons_succ]
                  refine wpAnyH_take (i := 38) (oi := { dst := some 188, op := Go.Op.pick (Go.Operand.tmp 172) (Go.Operand.const (Go.Value.bool true)) (Go.Operand.tmp 187), type := 4, pos := "law.go:292", after := #[{ on := 22, ground := Go.Ground.data }, { on := 37, ground := Go.Ground.data }], guard := none }) (v := ?_) rfl (by kernel_rfl) (by kernel_rfl) (by kernel_rfl) (fun _ _ _ h => h) (Or.inl ⟨by rfl, ?_⟩) hHeld ?_
                  rotate_left
                  · intro W hSw
                    try dsimp only at hSw
                    go_simp
                    try with_reducible rfl
                  try simp only [Act.put, List.setIfInBounds_toArray, List.set_cons_zero, List.set_cons_succ]
                  refine wpAnyH_take (i := 39) (oi := { dst := some 189, op := Go.Op.move (Go.Operand.tmp 188), type := 4, pos := "law.go:292", after := #[{ on := 38, ground := Go.Ground.data }, { on := 33, ground := Go.Ground.chain }], guard := none }) (v := ?_) rfl (by kernel_rfl) (by kernel_rfl) (by kernel_rfl) (fun _ _ _ h => h) (Or.inl ⟨by rfl, ?_⟩) hHeld ?_
                  rotate_left
                  · intro W hSw
                    try dsimp only at hSw
                    go_simp
                    try with_reducible rfl
                  try simp only [Act.put, List.setIfInBounds_toArray, List.set_cons_zero, List.set_cons_succ]
                  refine wpAnyH_take (i := 40) (oi := { dst := some 190, op := Go.Op.move (Go.Operand.tmp 3), type := 25, pos := "law.go:292", after := #[{ on := 39, ground := Go.Ground.guard }], guard := some (39, false) }) (v := ?_) rfl (by kernel_rfl) (by kernel_rfl) (by kernel_rfl) (fun _ _ _ h => h) (Or.inl ⟨by rfl, ?_⟩) hHeld ?_
                  rotate_left
                  · intro W hSw
                    try dsimp only at hSw
                    go_simp
                    try with_reducible rfl
                  try simp only [Act.put, List.setIfInBounds_toArray, List.set_cons_zero, List.set_cons_succ]
                  refine wpAnyH_take (i := 42) (oi := { dst := some 192, op := Go.Op.move (Go.Operand.tmp 9), type := 9, pos := "law.go:292", after := #[{ on := 39, ground := Go.Ground.guard }], guard := some (39, false) }) (v := ?_) rfl (by kernel_rfl) (by kernel_rfl) (by kernel_rfl) (fun _ _ _ h => h) (Or.inl ⟨by rfl, ?_⟩) hHeld ?_
                  rotate_left
                  · intro W hSw
                    try dsimp only at hSw
                    go_simp
                    try with_reducible rfl
                  try simp only [Act.put, List.setIfInBounds_toArray, List.set_cons_zero, List.set_cons_succ]
                  refine wpAnyH_ready (rs := [41]) (by kernel_rfl) (by simp) ?_
                  refine AllReadyH.cons (o := { dst := some 191, op := Go.Op.call { callee := Go.Callee.value (Go.Operand.func 23), args := #[Go.Operand.tmp 190], argTypes := #[25] }, type := 9, pos := "law.go:292", after := #[{ on := 40, ground := Go.Ground.data }, { on := 39, ground := Go.Ground.chain }, { on := 39, ground := Go.Ground.guard }], guard := some (39, false) }) rfl (fun K hK => ?_) AllReadyH.nil
                  go_simp
                  have HIM := S8.out.image 4 (by simp) rfl
                  rw [HS9.out] at HIM
                  refine HIM.mono ?_
                  rintro e wx ⟨rfl, rfl⟩
                  clear HIM
                  try go_simp
                  refine hK.out _ _ Z2 (fun hHeld => ?_)
                  clear hK K
                  try simp only [Act.put, List.setIfInBounds_toArray, List.set_cons_zero, List.set_cons_succ]
                  refine wpAnyH_take (i := 43) (oi := { dst := some 193, op := Go.Op.binOp Go.BinOp.neq 9 (Go.Operand.tmp 191) (Go.Operand.tmp 192) 9, type := 4, pos := "law.go:292", after := #[{ on := 41, ground := Go.Ground.data }, { on := 42, ground := Go.Ground.data }, { on := 39, ground := Go.Ground.guard }], guard := some (39, false) }) (v := ?_) rfl (by kernel_rfl) (by kernel_rfl) (by kernel_rfl) (fun _ _ _ h => h) (Or.inl ⟨by rfl, ?_⟩) hHeld ?_
                  rotate_left
                  · intro W hSw
                    try dsimp only at hSw
                    go_simp
                    try with_reducible rfl
                  try simp only [Act.put, List.setIfInBounds_toArray, List.set_cons_zero, List.set_cons_succ]
                  refine wpAnyH_take (i := 44) (oi := { dst := some 194, op := Go.Op.pick (Go.Operand.tmp 189) (Go.Operand.const (Go.Value.bool true)) (Go.Operand.tmp 193), type := 4, pos := "law.go:292", after := #[{ on := 39, ground := Go.Ground.data }, { on := 43, ground := Go.Ground.data }], guard := none }) (v := ?_) rfl (by kernel_rfl) (by kernel_rfl) (by kernel_rfl) (fun _ _ _ h => h) (Or.inl ⟨by rfl, ?_⟩) hHeld ?_
                  rotate_left
                  · intro W hSw
                    try dsimp only at hSw
                    go_simp
                    try with_reducible rfl
                  try simp only [Act.put, List.setIfInBounds_toArray, List.set_cons_zero, List.set_cons_succ]
                  refine wpAnyH_done (by kernel_rfl) ?_ _
                  go_wp2_with fail
                  go_roundw
                  case rel => exact ⟨k + 1, xs, q', by omega, by go_num, hx, Hok'.out, Hr'.out, Hz'.out, Hs'.out, St.pop (St.pop (St.pop (St.pop S8.out)))⟩
                  case measure => have := Hk80.out; simp [intOf]; omega
        · have q1 : (o.k == 1) = false := by simp [h1]
          by_cases h2 : o.k = 2
          · have q2 : (o.k == 2) = true := by simp [h2]
            as_aux_lemma =>
              clear h0
              clear h1
              clear h2
              obtain ⟨t, ht, HU⟩ := used_v o q.bw w0 ho
              have HU := Lib.hid HU
              have ht2 : t.size ≤ maxLen := by unfold maxLen; omega
              obtain ⟨P1, v1⟩ : ∃ P1, IntKind.i64.wrap (16 * (q.ba : Int)) = P1 := ⟨_, rfl⟩
              obtain ⟨P2, v2⟩ : ∃ P2, IntKind.i64.wrap (r + P1) = P2 := ⟨_, rfl⟩
              obtain ⟨P3, v3⟩ : ∃ P3, IntKind.i64.wrap (P2 + 8) = P3 := ⟨_, rfl⟩
              have B4d := B4.out.drew
              have X1 := Lib.hid RS.out.drew
              have Hht := Lib.hid ht2
              have B4d := Lib.hid B4d
              clear RS B4 ht ht2
              go_wp2_with fail
              go_region_held3 (fun W => (W.cell? ⟨g0, 1, none⟩ = some (.int .i64 r) ∧ W.cell? ⟨g0, 2, none⟩ = some (.int .i64 z) ∧ W.cell? ⟨w3.heap.size, 0, none⟩ = some (.int .i64 (q.ba : Int)) ∧ W.cell? ⟨w3.heap.size, 1, none⟩ = some (.bool q.bw) ∧ W.cell? ⟨O, 0, none⟩ = some (.int .i64 o.k) ∧ W.cell? ⟨O, 1, none⟩ = some (.int .i64 o.a) ∧ W.cell? ⟨O, 2, none⟩ = some (.int .i64 o.id) ∧ W.cell? ⟨O, 3, none⟩ = some (.int .i64 o.n) ∧ W.cell? ⟨O, 4, none⟩ = some (.slice o.pA o.pl.length o.pc) ∧ W.cell? ⟨O, 5, none⟩ = some (.string o.s) ∧ W.cell? ⟨O, 6, none⟩ = some (.int .i64 o.eo) ∧ W.cell? ⟨O, 7, none⟩ = some (.bool o.ew) ∧ W.cell? ⟨O, 8, none⟩ = some (.int .i64 o.ef) ∧ W.cell? ⟨O, 9, none⟩ = some (.bool o.wr)) ∧ (g0 < W.heap.size ∧ w3.heap.size < W.heap.size ∧ O < W.heap.size) ∧ ∃ l, St (fun _ => False) w0 (stars l) W)
                ((refine (_root_.id (α := RfS w0 g0 w3.heap.size O r z q o _) ?_); with_reducible (first | exact X1.out | exact Z2 | exact Z3)))
                (first | (go_at_call 28; ((with_reducible refine (HU.out _).mono ?_); rintro e w5 ⟨rfl, hb5⟩; have Z2 := RfS.below X1.out hb5)) | (go_at_call 27; ((with_reducible refine ((B4d.out.below hb5).write 3 (by simp) rfl P3 t Hht.out).mono ?_); rintro e w6 ⟨rfl, S6⟩; have Z3 := RfS.of hbx S6 0 2 (by simp) (by simp) rfl rfl)))
              have S6 : St (fun _ => False) w0 (stars [box w3.heap.size 69 #[.int .i64 (q.ba : Int), .bool q.bw], rowA 3 1 (.slice A2 (heldL q.hs).length cap2) (heldL q.hs).length (heldV q.hs), box O 66 #[.int .i64 o.k, .int .i64 o.a, .int .i64 o.id, .int .i64 o.n, .slice o.pA o.pl.length o.pc, .string o.s, .int .i64 o.eo, .bool o.ew, .int .i64 o.ef, .bool o.wr], drvP g gq (wrX xs P3 t) q]) w6 := S6
              have S6 := Lib.hid S6
              have hxx := wrX_length xs P3 t
              clear X1 Z2 Z3 HU B4d hb5
              go_wp2_with fail
              go_roundw
              case rel => exact ⟨k + 1, wrX xs P3 t, q, by omega, by go_num, by omega, by rw [hxx]; exact Hok.out, hr0.out, hz0.out, by omega, St.pop (St.pop (St.pop S6.out))⟩
              case measure => have := Hk80.out; simp [intOf]; omega
          · have q2 : (o.k == 2) = false := by simp [h2]
            by_cases h3 : o.k = 3
            · have q3 : (o.k == 3) = true := by simp [h3]
              as_aux_lemma =>
                clear h0
                clear h1
                clear h2
                clear h3
                obtain ⟨P, hP⟩ : ∃ P, bits .and .i64 o.a 4095 = P := ⟨_, rfl⟩
                obtain ⟨M, hM, hM1, hM2⟩ : ∃ M : Nat, min (o.s.size : Int) 200 = (M : Int) ∧ M ≤ o.s.size ∧ M ≤ 200 := ⟨min o.s.size 200, by omega, by omega, by omega⟩
                have B4d := B4.out.drew
                have X1 := Lib.hid RS.out.drew
                have v1 : (M : Int) ≤ (o.s.size : Int) := by omega
                have v2 : ¬ ((o.s.size : Int) < (M : Int)) := by omega
                have v3 : (0 : Int) ≤ (M : Int) := by omega
                have v4 : ¬ ((M : Int) < 0) := by omega
                obtain ⟨t, htt⟩ : ∃ t, o.s.extract 0 M = t := ⟨_, rfl⟩
                have ht : t.size ≤ maxLen := by rw [← htt, ByteArray.size_extract]; unfold maxLen; omega
                have Hht := Lib.hid ht
                have B4d := Lib.hid B4d
                clear RS B4 ht
                go_wp2_with fail
                go_region_held3 (fun W => (W.cell? ⟨g0, 1, none⟩ = some (.int .i64 r) ∧ W.cell? ⟨g0, 2, none⟩ = some (.int .i64 z) ∧ W.cell? ⟨w3.heap.size, 0, none⟩ = some (.int .i64 (q.ba : Int)) ∧ W.cell? ⟨w3.heap.size, 1, none⟩ = some (.bool q.bw) ∧ W.cell? ⟨O, 0, none⟩ = some (.int .i64 o.k) ∧ W.cell? ⟨O, 1, none⟩ = some (.int .i64 o.a) ∧ W.cell? ⟨O, 2, none⟩ = some (.int .i64 o.id) ∧ W.cell? ⟨O, 3, none⟩ = some (.int .i64 o.n) ∧ W.cell? ⟨O, 4, none⟩ = some (.slice o.pA o.pl.length o.pc) ∧ W.cell? ⟨O, 5, none⟩ = some (.string o.s) ∧ W.cell? ⟨O, 6, none⟩ = some (.int .i64 o.eo) ∧ W.cell? ⟨O, 7, none⟩ = some (.bool o.ew) ∧ W.cell? ⟨O, 8, none⟩ = some (.int .i64 o.ef) ∧ W.cell? ⟨O, 9, none⟩ = some (.bool o.wr)) ∧ (g0 < W.heap.size ∧ w3.heap.size < W.heap.size ∧ O < W.heap.size) ∧ ∃ l, St (fun _ => False) w0 (stars l) W)
                  ((refine (_root_.id (α := RfS w0 g0 w3.heap.size O r z q o _) ?_); with_reducible (first | exact X1.out | exact Z3)))
                  (first | (go_at_call 27; ((with_reducible refine (B4d.out.write 3 (by simp) rfl P t Hht.out).mono ?_); rintro e w6 ⟨rfl, S6⟩; have Z3 := RfS.of hbx S6 0 2 (by simp) (by simp) rfl rfl)))
                have S6 : St (fun _ => False) w0 (stars [box w3.heap.size 69 #[.int .i64 (q.ba : Int), .bool q.bw], rowA 3 1 (.slice A2 (heldL q.hs).length cap2) (heldL q.hs).length (heldV q.hs), box O 66 #[.int .i64 o.k, .int .i64 o.a, .int .i64 o.id, .int .i64 o.n, .slice o.pA o.pl.length o.pc, .string o.s, .int .i64 o.eo, .bool o.ew, .int .i64 o.ef, .bool o.wr], drvP g gq (wrX xs P t) q]) w6 := S6
                have S6 := Lib.hid S6
                have hxx := wrX_length xs P t
                clear X1 Z3 B4d
                go_wp2_with fail
                go_roundw
                case rel => exact ⟨k + 1, wrX xs P t, q, by omega, by go_num, by omega, by rw [hxx]; exact Hok.out, hr0.out, hz0.out, by omega, St.pop (St.pop (St.pop S6.out))⟩
                case measure => have := Hk80.out; simp [intOf]; omega
            · have q3 : (o.k == 3) = false := by simp [h3]
              as_aux_lemma =>
                clear h0
                clear h1
                clear h2
                clear h3
                go_wp2_with fail
                go_roundw
                case rel => exact ⟨k + 1, xs, q, by omega, by go_num, hx, Hok.out, hr0.out, hz0.out, by omega, St.pop (St.pop (St.pop B4.out))⟩
                case measure => have := Hk80.out; simp [intOf]; omega
    · have B2 := SS.out
      by_cases l1 : k < n
      · have l2 : ¬ k < 80 := fun h => hlt ⟨l1, h⟩
        have l3 : (k : Int) < (n : Int) := by omega
        have l4 : ¬ (k : Int) < 80 := by omega
        clear hok
        go_wp2_with fail
        refine (HF.out _).mono ?_
        rintro e w2 ⟨rfl, hq⟩
        have hq := (B2.below hq).law
        go_wp2_with fail
        go_ret
        exact ⟨rfl, b0 hb1.out hq⟩
      · have l3 : ¬ (k : Int) < (n : Int) := by omega
        clear hok
        go_wp2_with fail
        refine (HF.out _).mono ?_
        rintro e w2 ⟨rfl, hq⟩
        have hq := (B2.below hq).law
        go_wp2_with fail
        go_ret
        exact ⟨rfl, b0 hb1.out hq⟩
theorem refuses_all (b r z x y : Int) (A : Option Addr) (n c : Nat) (w : World) (hA : OpsAt A n w) :
    Calls Try.prog 4 #[.agg #[.int .i64 b, .int .i64 r, .int .i64 z, .int .i64 x, .int .i64 y, .slice A n c]] w fun e w' => e = .returned (.bool true) ∧ Below w.heap.size w w' := by
  cases hL : layB (xs0 (bytesN b)) r z x y
  · exact refuses_none b r z x y A n c hL w
  · exact refuses_some b r z x y A n c hL w hA
end Go.Proofs.Ytbpgblmhacpjlaa
namespace Go.Proofs.Ytbpgblmhacpjlaa
open Go.Joins Go.ChangeShapes Go.WideShapes Go.ChangeAt Go.RowKit Go.Deep
open Go.ChangeMaps (open_string)


set_option maxRecDepth 100000 in
theorem drvqRefuses_lifted (os : Os) (started : os.Started) (H : Type) (enc : TypeId × Value → H) :
    ReturnsInHanded {} Try.checked os 4 .any (Rows.drvqRefusesSpec.pre6 enc Try.prog Try.f4 Rows.drvqRefusesRow.domain false) (Rows.drvqRefusesSpec.post enc Try.prog Try.f4 false true false false) := by
  have e : Try.f4.params.toList = [59] := by rw [Try.params4]
  refine law_of_walk (C := Try.checked) (tb := 4) H enc Try.own started (by kernel_rfl) Try.func4 Try.laidOut rfl rfl Try.underlying4 ?_ ?_
    (ChangeSpec.witness6 (enc := enc) (C := Try.checked) false ⟨#[], #[.agg #[.int .i64 0, .int .i64 0, .int .i64 0, .int .i64 0, .int .i64 0, .slice none 0 0]], []⟩ 8 (by kernel_rfl) (by kernel_rfl) (by kernel_rfl) (by kernel_rfl)) ?_
  · rw [e]
    intro t ht
    simp only [List.mem_cons, List.not_mem_nil, or_false] at ht
    rcases ht with rfl <;> exact ⟨by kernel_rfl, of_decide_eq_true (by kernel_rfl)⟩
  · intro ds hds
    rw [e] at hds
    match ds, hds with
    | [d0], _ => rfl
  · intro W base args ds p hval0 hA0 hsz0
    have hval : ∀ (j : Nat) t v, Try.f4.params[j]? = some t → args[j]? = some v → Value.okWide Try.prog W .any base t v := hval0
    have hA : DataW.TrodAll enc Try.prog W 0 (fun _ => true) true Try.f4.params.toList args.toList ds p := hA0
    have hsz : (DataW.weightsEach Try.prog Try.f4.params.toList ds).all (· ≤ reachBytes) = true := hsz0
    rw [Try.params4] at hA hval hsz
    obtain ⟨v0, d0, rfl, rfl, h0⟩ := trodAll_one hA
    obtain ⟨b0, r0, z0, x0, y0, A0, n0, c0, rfl, hA0, hn0⟩ := open_world (hval 0 59 v0 rfl rfl) h0
    exact refuses_all b0 r0 z0 x0 y0 A0 n0 c0 W hA0

theorem drvqRefuses_holds : Rows.DrvqRefusesSaid :=
  OpenClaim.holds_of_wide 4 Try.f4 rfl rfl rfl rfl rfl rfl rfl ⟨rfl, rfl, rfl, rfl, rfl⟩ rfl rfl rfl rfl rfl (by kernel_rfl) Try.func4 (by kernel_rfl)
    (of_decide_eq_true (by kernel_rfl)) (by unfold Func.isWrapper; first | (rw [if_pos (by decide +kernel)]; kernel_rfl) | (rw [if_neg (by decide +kernel)]; exact ⟨rfl, rfl⟩))
    (fun os started H enc _ => drvqRefuses_lifted os started H enc)
end Go.Proofs.Ytbpgblmhacpjlaa

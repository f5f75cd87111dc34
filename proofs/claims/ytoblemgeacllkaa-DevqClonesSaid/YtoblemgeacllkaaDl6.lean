/-
  DevqBroken's walk: a queue that was broken by Fail takes, gives, tells and writes nothing; no condition.
-/
import Derived.Test.YtoblemgeacllkaaDl5
import Derived.Test.YtoblemgeacllkaaDfw
namespace Go.Proofs.Ytoblemgeacllkaa
open Go.RowKit

theorem newQ_since (r z x y : Int) : (newQ r z x y).since = 0 := rfl
theorem newQ_broken (r z x y : Int) : (newQ r z x y).broken = false := rfl
theorem lay_size {xs : List UInt8} {r z x y : Int} (h : layB xs r z x y = true) : 1 ≤ z ∧ z ≤ 32768 := by
  have h2 := lay_facts h
  simp only [layB, Bool.and_eq_true, decide_eq_true_eq] at h
  omega
/-- a queue broken: what each call tells -/
def brk (q : Qs) : Qs := { q with broken := true }
theorem next_brk (xs : List UInt8) (q : Qs) : nextC xs (brk q) = (noCh, false, 141, brk q) := by unfold nextC; rw [if_pos (show (brk q).broken = true from rfl)]
theorem done_brk (xs : List UInt8) (q : Qs) (i c v : Int) : doneC xs (brk q) i c v = (141, xs, brk q) := by unfold doneC; rw [if_pos (show (brk q).broken = true from rfl)]
theorem tell_brk (xs : List UInt8) (q : Qs) : tellC xs (brk q) = (false, brk q) := by unfold tellC; rw [if_pos (show (brk q).broken = true from rfl)]
theorem brk_ok {q : Qs} {n : Nat} (h : q.Ok n) : (brk q).Ok n := ⟨h.1, h.2, h.3, h.4, h.5, h.6, h.7, h.8, h.9⟩
set_option maxRecDepth 100000 in
set_option maxHeartbeats 3200000 in
theorem broken_none (b r z x y : Int) (A : Option Addr) (n c : Nat) (hL : layB (List.replicate (bytesN b) 0) r z x y = false) (w : World) :
    Calls Try.prog 5 #[.agg #[.int .i64 b, .int .i64 r, .int .i64 z, .int .i64 x, .int .i64 y, .slice A n c]] w fun e w' => e = .returned (.bool true) ∧ Below w.heap.size w w' := by
  have HL := Lib.hid (fun W => laid_none b r z x y (.slice A n c) hL W)
  have HF := Lib.hid fixed_any
  have hb1 := ba (Below.refl w.heap.size w) (.cells #[.int .i64 b, .int .i64 r, .int .i64 z, .int .i64 x, .int .i64 y, .slice A n c] 26)
  clear hL
  go_enter Try.func5, Try.ntmps5
  go_wp2_with fail
  refine (HL.out _).mono ?_
  rintro e w1 ⟨p, rfl, hq⟩
  have hb2 := b0 hb1 hq
  clear hb1 hq HL
  go_wp2_with (go_at_call 27; ((with_reducible refine (HF.out _).mono ?_); rintro e w2 ⟨rfl, hq⟩))
  go_ret
  exact ⟨rfl, b0 hb2 hq⟩
set_option maxRecDepth 100000 in
set_option maxHeartbeats 6400000 in
theorem broken_some (b r z x y : Int) (A : Option Addr) (n c : Nat) (hL : layB (List.replicate (bytesN b) 0) r z x y = true) (w : World) (hA : OpsAt A n w) :
    Calls Try.prog 5 #[.agg #[.int .i64 b, .int .i64 r, .int .i64 z, .int .i64 x, .int .i64 y, .slice A n c]] w fun e w' => e = .returned (.bool true) ∧ Below w.heap.size w w' := by
  have HL := Lib.hid (fun W => laid_good b r z x y (.slice A n c) hL W)
  have HF := Lib.hid fixed_any
  have hb1 := Lib.hid (ba (Below.refl w.heap.size w) (.cells #[.int .i64 b, .int .i64 r, .int .i64 z, .int .i64 x, .int .i64 y, .slice A n c] 26))
  have hz := (lay_size hL).1
  have hok := newQ_ok hL
  have hbx := Blk.new w 26 #[.int .i64 b, .int .i64 r, .int .i64 z, .int .i64 x, .int .i64 y, .slice A n c]
  have hA1 := hA.below (ba (Below.refl _ _) (.cells #[.int .i64 b, .int .i64 r, .int .i64 z, .int .i64 x, .int .i64 y, .slice A n c] 26))
  obtain ⟨xs0, hX0⟩ : ∃ X, List.replicate (bytesN b) (0 : UInt8) = X := ⟨_, rfl⟩
  rw [hX0] at HL hL hok
  obtain ⟨q0, hQ⟩ : ∃ q, newQ r z x y = q := ⟨_, rfl⟩
  rw [hQ] at HL hok
  clear hA hX0 hL
  go_enter Try.func5, Try.ntmps5
  go_wp2_with fail
  refine (HL.out _).mono ?_
  rintro e w1 ⟨gq, g, gb, gx, rfl, O1⟩
  obtain ⟨w0, hw0⟩ : ∃ w0, w.alloc (.cells #[.int .i64 b, .int .i64 r, .int .i64 z, .int .i64 x, .int .i64 y, .slice A n c] 26) = w0 := ⟨_, rfl⟩
  rw [hw0] at hb1 hbx hA1 O1
  have O1 := Lib.hid O1
  generalize w.heap.size = g0 at hbx ⊢
  clear hw0 HL
  go_wp2_with fail
  go_loopw [7] (fun i wr => ∃ k : Nat, k ≤ n ∧ i = .int .i64 k ∧ ∃ xs, xs.length = xs0.length ∧ Ow w0 gq g gb xs q0 wr) (fun i _ => n - (intOf i).toNat)
  case atStart => exact ⟨0, Nat.zero_le _, rfl, xs0, rfl, O1.out⟩
  case round =>
    obtain ⟨k, hk, rfl, xs, hx, O⟩ := hrel
    have O := Lib.hid O
    have hb := O.out.below
    have hbk := hbx.same (hb.block _ hbx.lt)
    have c5 := hbk.cell 5
    simp only [List.getElem?_toArray, List.getElem?_cons_zero, List.getElem?_cons_succ] at c5
    by_cases hlt : k < n ∧ k < 50
    · obtain ⟨l1, l2⟩ := hlt
      obtain ⟨b1, off, o, rfl, ho, hb1', hcs⟩ := hA1.op k l1
      have hf : WF g0 r z x y b1 off n c k o w0 := ⟨⟨hbx.cell 1, hbx.cell 2, hbx.cell 3, hbx.cell 4, hbx.cell 5⟩, hcs⟩
      have HM := Lib.hid (fun W => memory_any o ho r z x y hz W)
      have i0 := WFs.start (hf.next hbx.lt hb1' hb) (Nat.lt_of_lt_of_le hbx.lt hb.size) (Nat.lt_of_lt_of_le hb1' hb.size)
      have hkn : (k : Int) < (n : Int) := by omega
      go_wp2_with fail
      go_region_held3 (fun w' => ((w'.cell? ⟨g0, 1, none⟩ = some (.int .i64 r) ∧ w'.cell? ⟨g0, 2, none⟩ = some (.int .i64 z) ∧ w'.cell? ⟨g0, 3, none⟩ = some (.int .i64 x) ∧ w'.cell? ⟨g0, 4, none⟩ = some (.int .i64 y) ∧ w'.cell? ⟨g0, 5, none⟩ = some (.slice (some ⟨b1, off, none⟩) n c)) ∧
    (w'.cell? ⟨b1, off + k * 13, none⟩ = some (.int .i64 o.k) ∧ w'.cell? ⟨b1, off + k * 13 + 1, none⟩ = some (.int .i64 o.a) ∧ w'.cell? ⟨b1, off + k * 13 + 2, none⟩ = some (.int .u64 (o.da : Int)) ∧ w'.cell? ⟨b1, off + k * 13 + 3, none⟩ = some (.int .u32 (o.dn : Int)) ∧
      w'.cell? ⟨b1, off + k * 13 + 4, none⟩ = some (.int .i64 o.di) ∧ w'.cell? ⟨b1, off + k * 13 + 5, none⟩ = some (.int .i64 o.df) ∧ w'.cell? ⟨b1, off + k * 13 + 6, none⟩ = some (.string o.s) ∧ w'.cell? ⟨b1, off + k * 13 + 7, none⟩ = some (.int .i64 o.n) ∧ w'.cell? ⟨b1, off + k * 13 + 8, none⟩ = some (.int .i64 o.wr) ∧
      w'.cell? ⟨b1, off + k * 13 + 9, none⟩ = some (.int .i64 o.eo) ∧ w'.cell? ⟨b1, off + k * 13 + 10, none⟩ = some (.bool o.ew) ∧ w'.cell? ⟨b1, off + k * 13 + 11, none⟩ = some (.int .i64 o.ef) ∧ w'.cell? ⟨b1, off + k * 13 + 12, none⟩ = some (.bool o.v))) ∧ WFs g0 r z x y b1 off n c k o wr w')
        (first | exact i0 | exact WFs.after (by assumption) hq)
        (first | (go_at_call 8; (with_reducible refine (HM.out _).mono ?_); rintro e w' ⟨pa, ps, pis, rfl, hps, hq⟩))
      rename_i w2 hH
      have O2 := Lib.hid (O.out.next hH.2.2.1)
      clear hH i0 O c5 hbk hb hcs HM O1 HF
      have hps : ps.size ≤ maxLen := by unfold maxLen; omega
      cases pis
      · go_wp2_with fail
        go_roundw
        case rel => exact ⟨k + 1, by omega, by go_num, xs, hx, O2.out⟩
        case measure => simp [intOf]; omega
      · go_wp2_with fail
        refine (O2.out.writeQ pa ps hps).mono ?_
        rintro e w3 ⟨rfl, O3, -⟩
        go_wp2_with fail
        go_roundw
        case rel => exact ⟨k + 1, by omega, by go_num, _, (wrX_length _ _ _).trans hx, O3⟩
        case measure => simp [intOf]; omega
    · have O := O.out
      have hok2 : (brk q0).Ok xs.length := by rw [hx]; exact brk_ok hok
      have hsi : (brk q0).since ≤ 1099511627776 := by rw [← hQ]; exact Nat.zero_le _
      by_cases l1 : k < n
      · have l2 : ¬ k < 50 := fun h => hlt ⟨l1, h⟩
        clear hbk hb O1 hlt
        go_wp2_with fail
        clear c5
        refine O.failQ.mono ?_
        rintro e w2 ⟨rfl, O2, -⟩
        have O2 : Ow w0 gq g gb xs (brk q0) w2 := O2
        obtain ⟨S, hS⟩ : ∃ S : ByteArray, ⟨xs.toArray⟩ = S := ⟨_, rfl⟩
        go_wp2_with fail
        refine O2.imageQ.mono ?_
        rintro e w3 ⟨rfl, rfl⟩
        rw [hS]
        go_wp2_with fail
        refine (O2.nextQ hok2 _ (next_brk xs q0)).mono ?_
        rintro e w3 ⟨A3, cap3, rfl, -, O3, -⟩
        have O4 := Lib.hid (O3.next (ba (Below.refl _ _) (.cells #[.int .i64 0, .int .i64 0, .slice A3 0 cap3] 51)))
        have k4 := Blk.new w3 51 #[.int .i64 0, .int .i64 0, .slice A3 0 cap3]
        clear O O2 O3
        go_wp2_with fail
        refine (O4.out.doneQ hok2 hsi 0 1 1 _ (done_brk xs q0 0 1 1)).mono ?_
        rintro e w5 ⟨rfl, O5, f5⟩
        have k5 := k4.far f5 (by decide) (by decide) (by decide) (by decide)
        have O5 := Lib.hid O5
        clear O4 k4 f5
        go_wp2_with fail
        refine (O5.out.askQ hok2 0 0 false).mono ?_
        rintro e w6 ⟨rfl, O6, f6⟩
        have k6 := k5.far f6 (by decide) (by decide) (by decide) (by decide)
        have O6 : Ow w0 gq g gb xs (brk q0) w6 := O6
        have O6 := Lib.hid O6
        have ea : askE (brk q0) 0 0 = 141 := rfl
        rw [ea]
        have c6 := k6.cell 2
        simp only [List.getElem?_toArray, List.getElem?_cons_zero, List.getElem?_cons_succ] at c6
        clear O5 k5 f6
        go_wp2_with fail
        refine (O6.out.tellQ hok2 _ (tell_brk xs q0)).mono ?_
        rintro e w7 ⟨rfl, O7, -⟩
        have O7 := Lib.hid O7
        clear O6 k6 c6
        go_wp2_with fail
        refine O7.out.brokenQ.mono ?_
        rintro e w8 ⟨rfl, rfl⟩
        have eb : (brk q0).broken = true := rfl
        rw [eb]
        go_wp2_with fail
        refine O7.out.imageQ.mono ?_
        rintro e w8 ⟨rfl, rfl⟩
        rw [hS]
        go_wp2_with fail
        refine (HF.out _).mono ?_
        rintro e w8 ⟨rfl, hq⟩
        go_wp2_with fail
        go_ret
        exact ⟨rfl, b0 hb1.out (b0 O7.out.below hq)⟩
      · clear hbk hb O1 hlt
        go_wp2_with fail
        clear c5
        refine O.failQ.mono ?_
        rintro e w2 ⟨rfl, O2, -⟩
        have O2 : Ow w0 gq g gb xs (brk q0) w2 := O2
        obtain ⟨S, hS⟩ : ∃ S : ByteArray, ⟨xs.toArray⟩ = S := ⟨_, rfl⟩
        go_wp2_with fail
        refine O2.imageQ.mono ?_
        rintro e w3 ⟨rfl, rfl⟩
        rw [hS]
        go_wp2_with fail
        refine (O2.nextQ hok2 _ (next_brk xs q0)).mono ?_
        rintro e w3 ⟨A3, cap3, rfl, -, O3, -⟩
        have O4 := Lib.hid (O3.next (ba (Below.refl _ _) (.cells #[.int .i64 0, .int .i64 0, .slice A3 0 cap3] 51)))
        have k4 := Blk.new w3 51 #[.int .i64 0, .int .i64 0, .slice A3 0 cap3]
        clear O O2 O3
        go_wp2_with fail
        refine (O4.out.doneQ hok2 hsi 0 1 1 _ (done_brk xs q0 0 1 1)).mono ?_
        rintro e w5 ⟨rfl, O5, f5⟩
        have k5 := k4.far f5 (by decide) (by decide) (by decide) (by decide)
        have O5 := Lib.hid O5
        clear O4 k4 f5
        go_wp2_with fail
        refine (O5.out.askQ hok2 0 0 false).mono ?_
        rintro e w6 ⟨rfl, O6, f6⟩
        have k6 := k5.far f6 (by decide) (by decide) (by decide) (by decide)
        have O6 : Ow w0 gq g gb xs (brk q0) w6 := O6
        have O6 := Lib.hid O6
        have ea : askE (brk q0) 0 0 = 141 := rfl
        rw [ea]
        have c6 := k6.cell 2
        simp only [List.getElem?_toArray, List.getElem?_cons_zero, List.getElem?_cons_succ] at c6
        clear O5 k5 f6
        go_wp2_with fail
        refine (O6.out.tellQ hok2 _ (tell_brk xs q0)).mono ?_
        rintro e w7 ⟨rfl, O7, -⟩
        have O7 := Lib.hid O7
        clear O6 k6 c6
        go_wp2_with fail
        refine O7.out.brokenQ.mono ?_
        rintro e w8 ⟨rfl, rfl⟩
        have eb : (brk q0).broken = true := rfl
        rw [eb]
        go_wp2_with fail
        refine O7.out.imageQ.mono ?_
        rintro e w8 ⟨rfl, rfl⟩
        rw [hS]
        go_wp2_with fail
        refine (HF.out _).mono ?_
        rintro e w8 ⟨rfl, hq⟩
        go_wp2_with fail
        go_ret
        exact ⟨rfl, b0 hb1.out (b0 O7.out.below hq)⟩
theorem broken_all (b r z x y : Int) (A : Option Addr) (n c : Nat) (w : World) (hA : OpsAt A n w) :
    Calls Try.prog 5 #[.agg #[.int .i64 b, .int .i64 r, .int .i64 z, .int .i64 x, .int .i64 y, .slice A n c]] w fun e w' => e = .returned (.bool true) ∧ Below w.heap.size w w' := by
  cases hL : layB (List.replicate (bytesN b) 0) r z x y
  · exact broken_none b r z x y A n c hL w
  · exact broken_some b r z x y A n c hL w hA
end Go.Proofs.Ytoblemgeacllkaa

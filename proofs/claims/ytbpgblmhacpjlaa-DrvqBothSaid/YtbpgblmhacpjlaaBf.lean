/-
  The calls whose answers the document fixes; low bits.
-/
import Derived.Test.YtbpgblmhacpjlaaLc
import Derived.Test.YtbpgblmhacpjlaaSep4
import Derived.Deep.RegionHeld3
namespace Go.Proofs.Ytbpgblmhacpjlaa
open Go.RowKit

def fx0 : List UInt8 := List.replicate 256 0
def fq0 : Vs := newV 0 4 64 68
def fp : List IPt := [⟨128, 5, false⟩, ⟨140, 6, true⟩]
def fx1 : List UInt8 := putN fq0 (fp.map IPt.pt) 0 fx0 2
def fq1 : Vs := fq0.posted 2
def fx2 : List UInt8 := over fx1 8 ⟨#[7, 0, 0, 0, 0, 0, 128, 128]⟩
theorem stood_list : stood.data.toList = List.replicate 30 0 ++ [119, 104, 97, 116, 32, 115, 116, 111, 111, 100, 32, 116, 104, 101, 114, 101] := by
  unfold stood noughts
  simp [ByteArray.data_append]
theorem lay_fx : layX 256 0 4 64 68 = fx0 := by
  have e1 : bytesN 256 = 256 := by decide
  have h0 : xs0 256 = (List.replicate 30 0 ++ [119, 104, 97, 116, 32, 115, 116, 111, 111, 100, 32, 116, 104, 101, 114, 101]) ++ List.replicate 210 0 := by
    unfold xs0 over
    rw [stood_size, stood_list, List.take_zero, List.nil_append, List.drop_replicate]
  unfold layX newX
  rw [e1, h0]
  decide +kernel
theorem fq0_ok : fq0.Ok fx0.length := by constructor <;> decide +kernel
theorem fx_lay : layB (xs0 (bytesN 256)) 0 4 64 68 = true := by
  have e1 : bytesN 256 = 256 := by decide
  rw [e1]
  unfold layB fitsB mayB
  rw [xs0_length (by omega)]
  decide +kernel
theorem f_one : postC fx0 fq0 fp = (0, 0, fx1, fq1) := by
  have h1 : chainB fx0 fp = true := by decide +kernel
  have h2 : ¬ fq0.free < fp.length := by decide +kernel
  have h3 : leastId fq0.hs = 0 := by decide +kernel
  unfold postC
  rw [if_pos h1, if_neg h2, h3]; rfl
theorem fx1_length : fx1.length = 256 := by decide +kernel
theorem fq1_ok : fq1.Ok fx1.length := by rw [fx1_length]; constructor <;> decide +kernel
theorem f_free : (fq1.free : Int) = 2 := by decide +kernel
theorem f_two : postC fx1 fq1 (⟨128, 5, false⟩ :: fp) = (0, 151, fx1, fq1) := by
  have h1 : chainB fx1 (⟨128, 5, false⟩ :: fp) = true := by
    unfold chainB chainGo fp chainGo chainGo chainGo mayB
    rw [fx1_length]; decide +kernel
  have h2 : fq1.free < (⟨128, 5, false⟩ :: fp).length := by decide +kernel
  unfold postC
  rw [if_pos h1, if_pos h2]
theorem f_three : postC fx1 fq1 [] = (0, 150, fx1, fq1) := rfl
theorem f_four : postC fx1 fq1 [⟨140, 6, true⟩, ⟨128, 5, false⟩] = (0, 150, fx1, fq1) := by
  have h1 : ¬ chainB fx1 [⟨140, 6, true⟩, ⟨128, 5, false⟩] = true := by
    unfold chainB chainGo chainGo chainGo mayB
    rw [fx1_length]; decide +kernel
  unfold postC
  rw [if_neg h1]
theorem f_five : reapC fx1 fq1 = (0, 0, false, 0, fq1) := by
  have h1 : ¬ usedB (deAt fx1 (fq1.ring + 16 * fq1.ba)).f fq1.bw = true := by decide +kernel
  unfold reapC
  rw [if_neg h1]
theorem f_read : (⟨((fx1.drop 0).take 32).toArray⟩ : ByteArray) = ⟨#[128, 0, 0, 0, 0, 0, 0, 0, 5, 0, 0, 0, 0, 0, 129, 0, 140, 0, 0, 0, 0, 0, 0, 0, 6, 0, 0, 0, 0, 0, 130, 0]⟩ := by
  have : (fx1.drop 0).take 32 = [128, 0, 0, 0, 0, 0, 0, 0, 5, 0, 0, 0, 0, 0, 129, 0, 140, 0, 0, 0, 0, 0, 0, 0, 6, 0, 0, 0, 0, 0, 130, 0] := by decide +kernel
  rw [this]
theorem f_write : wrX fx1 8 ⟨#[7, 0, 0, 0, 0, 0, 128, 128]⟩ = fx2 := by
  unfold wrX fx2
  rw [if_pos (by rw [fx1_length]; decide)]; rfl
theorem fx2_length : fx2.length = 256 := by decide +kernel
theorem fq1_ok2 : fq1.Ok fx2.length := by rw [fx2_length]; have := fq1_ok; rwa [fx1_length] at this
theorem f_six : reapC fx2 fq1 = (0, 7, true, 0, fq1.reaped 0) := by
  have h1 : usedB (deAt fx2 (fq1.ring + 16 * fq1.ba)).f fq1.bw = true := by decide +kernel
  have h2 : (deAt fx2 (fq1.ring + 16 * fq1.ba)).id = 0 := by decide +kernel
  have h3 : (deAt fx2 (fq1.ring + 16 * fq1.ba)).n = 7 := by decide +kernel
  have h4 : 0 < fq1.hs.getD 0 0 := by decide +kernel
  unfold reapC
  rw [if_pos h1, h2, if_pos h4, h3]; rfl
theorem fq2_ok : (fq1.reaped 0).Ok fx2.length := by rw [fx2_length]; constructor <;> decide +kernel
theorem f_seven : layB fx2 0 0 0 0 = false := rfl
theorem f_eight : ((fq1.reaped 0).free : Int) = 4 ∧ (heldL (fq1.reaped 0).hs).length = 0 ∧ (fq1.reaped 0).ba = 2 ∧ (fq1.reaped 0).bw = true := by decide +kernel
end Go.Proofs.Ytbpgblmhacpjlaa
namespace Go.Proofs.Ytbpgblmhacpjlaa
open Go.RowKit

theorem laid_fx (w : World) : Calls Try.prog 22 #[.agg #[.int .i64 256, .int .i64 0, .int .i64 4, .int .i64 64, .int .i64 68, .slice none 0 0]] w fun e w' =>
    ∃ g gq gx, e = .returned (.tuple #[.pointer (some ⟨g, 0, none⟩), .pointer (some ⟨gq, 0, none⟩), .pointer (some ⟨gx, 0, none⟩), .bool true]) ∧ St (fun _ => False) w (stars [drvP g gq fx0 fq0]) w' := by
  have h := laid_v 256 0 4 64 68 none 0 0 w
  unfold LaidP at h
  rw [fx_lay, lay_fx] at h
  refine h.mono fun e w' hh => ?_
  rw [if_pos rfl] at hh
  obtain ⟨g, gq, gk, gx, he, hs⟩ := hh
  exact ⟨g, gq, gx, he, hs.weak fun F e => first_of e⟩
/-- two parts in a row, as a region reads them -/
def XF (w : World) (K : Nat) (W : World) : Prop :=
  (W.cell? ⟨K, 0, none⟩ = some (.int .i64 128) ∧ W.cell? ⟨K, 1, none⟩ = some (.int .i64 5) ∧ W.cell? ⟨K, 2, none⟩ = some (.bool false) ∧ W.cell? ⟨K, 3, none⟩ = some (.int .i64 140) ∧ W.cell? ⟨K, 4, none⟩ = some (.int .i64 6) ∧ W.cell? ⟨K, 5, none⟩ = some (.bool true)) ∧ ∃ l, St (fun _ => False) w (stars l) W
theorem XF.of {w W : World} {K : Nat} {l : List As} (h : St (fun _ => False) w (stars l) W) (i : Nat) (hi : i < l.length) (he : l[i] = rowA 77 3 (.slice (some ⟨K, 0, none⟩) 2 2) 2 (iptCells fp)) : XF w K W := by
  have hr := h.row i hi he
  have hc := fun j u hu => hr.cells (g := K) rfl j u hu
  have c0 := hc 0 _ rfl
  have c1 := hc 1 _ rfl
  have c2 := hc 2 _ rfl
  have c3 := hc 3 _ rfl
  have c4 := hc 4 _ rfl
  have c5 := hc 5 _ rfl
  rw [addr_zero] at c0 c1 c2 c3 c4 c5
  exact ⟨⟨c0, c1, c2, c3, c4, c5⟩, l, h⟩
theorem Try.infoPart : (Try.prog.info? 77).map (fun i => (i.zero, i.size, i.bytes)) = some (some (.agg #[.int .i64 0, .int .i64 0, .bool false]), 3, 24) := by kernel_rfl
set_option maxRecDepth 100000 in
set_option maxHeartbeats 6400000 in
theorem fixed_any (w : World) : Calls Try.prog 21 #[] w fun e w' => e = .returned (.bool true) ∧ Below w.heap.size w w' := by
  obtain ⟨i0, hi, hz0, hz1, hz2⟩ := info_parts Try.infoPart
  have HI := Lib.hid hi
  have HZ0 := Lib.hid hz0
  have HZ1 := Lib.hid hz1
  have HZ2 := Lib.hid hz2
  clear hi hz0 hz1 hz2
  have HL := Lib.hid laid_fx
  have hb1 := ba (Below.refl w.heap.size w) (.cells #[.int .i64 0, .int .i64 4, .int .i64 64, .int .i64 68] 24)
  have HB := Lib.hid hb1
  clear hb1
  go_enter Try.func21, Try.ntmps21
  go_wp2_with fail
  refine (HL.out _).mono ?_
  rintro e w1 ⟨g, gq, gx, rfl, hs⟩
  have S1 := St.trans0 HB.out hs
  have P1 := Lib.hid (S1.pushRow 77 3 2 (iptCells fp) rfl (by decide) (by decide))
  have HP : Hid (PsAt (some ⟨w1.heap.size, 0, none⟩) fp (w1.alloc (.cells (iptCells fp).toArray 77))) := Lib.hid (PsAt.of_own (cap := 2) (P1.out.row 0 (by simp) rfl))
  have H2 := Lib.hid (P1.out.post 1 (by simp) rfl fq0_ok (by decide) (cap := 2) HP.out (off_row (m := 0) (by simp) rfl (own_addr (P1.out.row 0 (by simp) rfl))) (by decide) (by decide) _ f_one)
  clear hs S1
  go_wp2_with fail
  refine H2.out.mono ?_
  rintro e w2 ⟨rfl, S2⟩
  have S2 : St (fun _ => False) w (stars [rowA 77 3 (.slice (some ⟨w1.heap.size, 0, none⟩) 2 2) 2 (iptCells fp), drvP g gq fx1 fq1]) w2 := S2
  have H3 := S2.free 1 (by simp) rfl
  rw [f_free] at H3
  have S2 := Lib.hid S2
  have H3 := Lib.hid H3
  clear P1 HP H2
  go_wp2_with fail
  refine H3.out.mono ?_
  rintro e wx ⟨rfl, rfl⟩
  have P3 := Lib.hid (S2.out.pushRow 77 3 1 (iptCells [⟨128, 5, false⟩]) rfl (by decide) (by decide))
  have r0 := Lib.hid (P3.out.row 0 (by simp) rfl)
  have r1 := Lib.hid (P3.out.row 1 (by simp) rfl)
  clear H3
  go_wp2_with (at_builtin; refine wpList_append_lies _ rfl (.tmp 57) (.tmp 58) 37 rfl 0 77 i0 _ 3 24 Try.underlying37 HI.out HZ0.out HZ1.out HZ2.out rfl (by decide) (.slice (some ⟨w2.heap.size, 0, none⟩) 1 1) 1 (iptCells [⟨128, 5, false⟩]) rfl r0.out ⟨w1.heap.size, 0, none⟩ 2 2 (iptCells fp) rfl rfl (r1.out.cells (g := w1.heap.size) rfl) (ipt_one _) (by decide) (by unfold maxLen; omega) (by omega) (Nat.zero_le _) _ rfl ?_; intro g3 cap3 w3 hown hgrow hat hlt3)
  have S3 : St (fun _ => False) w (stars [rowA 77 3 (.slice (some ⟨g3, 0, none⟩) (1 + 2) cap3) (1 + 2) (iptCells [⟨128, 5, false⟩] ++ iptCells fp), rowA 77 3 (.slice (some ⟨w1.heap.size, 0, none⟩) 2 2) 2 (iptCells fp), drvP g gq fx1 fq1]) w3 := P3.out.grow 0 (by simp) rfl hown hgrow (fun k hk => by
    have e : g3 = k := by simpa [Value.ownBlock] using hk
    subst e
    rcases hat with e | e
    · exact .inl e
    · right; rw [e]; exact Nat.le_refl _)
  have HP3 : PsAt (some ⟨g3, 0, none⟩) (⟨128, 5, false⟩ :: fp) w3 := PsAt.of_own (cap := cap3) hown
  have H4 := Lib.hid (S3.post 2 (by simp) rfl fq1_ok (by decide) (cap := cap3) HP3 (off_row (m := 0) (by simp) rfl (own_addr (S3.row 0 (by simp) rfl))) (by decide) (by decide) _ f_two)
  clear hown hgrow hat hlt3 HP3 S3 r0 r1 P3 S2
  go_wp2_with fail
  refine H4.out.mono ?_
  rintro e w4 ⟨rfl, S4⟩
  have S4 : St (fun _ => False) w (stars [rowA 77 3 (.slice (some ⟨w1.heap.size, 0, none⟩) 2 2) 2 (iptCells fp), drvP g gq fx1 fq1]) w4 := St.pop S4
  have H5 := Lib.hid (S4.post 1 (by simp) rfl fq1_ok (by decide) (A := none) (cap := 0) (ps := []) (fun j hj => by simp at hj) off_none (by decide) (by decide) _ f_three)
  clear H4
  go_wp2_with fail
  refine H5.out.mono ?_
  rintro e w5 ⟨rfl, S5⟩
  have S5 : St (fun _ => False) w (stars [rowA 77 3 (.slice (some ⟨w1.heap.size, 0, none⟩) 2 2) 2 (iptCells fp), drvP g gq fx1 fq1]) w5 := S5
  clear S4 H5
  go_wp2_with fail
  have X5 := Lib.hid (XF.of S5.drew 0 (by simp) rfl)
  have P6 : St (fun _ => False) w (stars [rowA 77 3 (.slice (some ⟨w5.heap.size, 0, none⟩) 2 2) 2 (iptCells [⟨140, 6, true⟩, ⟨128, 5, false⟩]), rowA 77 3 (.slice (some ⟨w1.heap.size, 0, none⟩) 2 2) 2 (iptCells fp), drvP g gq fx1 fq1]) (w5.alloc (.cells (iptCells [⟨140, 6, true⟩, ⟨128, 5, false⟩]).toArray 77)).drew := (S5.pushRow 77 3 2 (iptCells [⟨140, 6, true⟩, ⟨128, 5, false⟩]) rfl (by decide) (by decide)).drew
  have HP6 : PsAt (some ⟨w5.heap.size, 0, none⟩) [⟨140, 6, true⟩, ⟨128, 5, false⟩] (w5.alloc (.cells (iptCells [⟨140, 6, true⟩, ⟨128, 5, false⟩]).toArray 77)).drew := PsAt.of_own (cap := 2) (P6.row 0 (by simp) rfl)
  have H6 : Calls Try.prog 11 #[.pointer (some ⟨gq, 0, none⟩), .slice (some ⟨w5.heap.size, 0, none⟩) 2 2] (w5.alloc (.cells #[.int .i64 140, .int .i64 6, .bool true, .int .i64 128, .int .i64 5, .bool false] 77)).drew fun e w' => e = .returned (.tuple #[.int .i64 0, .int .i64 150]) ∧ St (fun _ => False) w (stars [rowA 77 3 (.slice (some ⟨w5.heap.size, 0, none⟩) 2 2) 2 (iptCells [⟨140, 6, true⟩, ⟨128, 5, false⟩]), rowA 77 3 (.slice (some ⟨w1.heap.size, 0, none⟩) 2 2) 2 (iptCells fp), drvP g gq fx1 fq1]) w' := (P6.post 2 (by simp) rfl fq1_ok (by decide) (cap := 2) HP6 (off_row (m := 0) (by simp) rfl (own_addr (P6.row 0 (by simp) rfl))) (by decide) (by decide) _ f_four)
  have H6 := Lib.hid H6
  have Y6 : XF w w1.heap.size (w5.alloc (.cells #[.int .i64 140, .int .i64 6, .bool true, .int .i64 128, .int .i64 5, .bool false] 77)).drew := XF.of P6 1 (by simp) rfl
  have Y6 := Lib.hid Y6
  clear HP6
  go_region_held3 (fun W => (W.cell? ⟨w1.heap.size, 0, none⟩ = some (.int .i64 128) ∧ W.cell? ⟨w1.heap.size, 1, none⟩ = some (.int .i64 5) ∧ W.cell? ⟨w1.heap.size, 2, none⟩ = some (.bool false) ∧ W.cell? ⟨w1.heap.size, 3, none⟩ = some (.int .i64 140) ∧ W.cell? ⟨w1.heap.size, 4, none⟩ = some (.int .i64 6) ∧ W.cell? ⟨w1.heap.size, 5, none⟩ = some (.bool true)) ∧ ∃ l, St (fun _ => False) w (stars l) W)
    ((refine (id (α := XF w w1.heap.size _) ?_); with_reducible (first | exact X5.out | exact Y6.out | exact Z6)))
    ((go_at_call 11; ((with_reducible refine H6.out.mono ?_); rintro e w6 ⟨rfl, S6⟩; have Z6 := XF.of S6 1 (by simp) rfl)))
  have S6 : St (fun _ => False) w (stars [drvP g gq fx1 fq1]) w6 := St.pop (St.pop S6)
  have H7 := Lib.hid (S6.reap 0 (by simp) rfl fq1_ok _ f_five)
  clear X5 P6 H6 Y6 Z6 S5
  go_wp2_with fail
  refine H7.out.mono ?_
  rintro e w7 ⟨rfl, S7⟩
  have S7 : St (fun _ => False) w (stars [drvP g gq fx1 fq1]) w7 := S7
  have H8 := S7.read 0 (by simp) rfl 0 32 (by rw [fx1_length]; omega)
  rw [f_read] at H8
  have H8 : Calls Try.prog 46 #[.pointer (some ⟨g, 0, none⟩), .int .i64 0, .int .i64 32] w7 _ := H8
  have H8 := Lib.hid H8
  clear H7 S6 S7
  go_wp2_with fail
  refine H8.out.mono ?_
  rintro e w8 ⟨rfl, S8⟩
  have S8 : St (fun _ => False) w (stars [drvP g gq fx1 fq1]) w8 := S8
  have H9 := S8.write 0 (by simp) rfl 8 ⟨#[7, 0, 0, 0, 0, 0, 128, 128]⟩ (by decide)
  rw [f_write] at H9
  have H9 := Lib.hid H9
  clear H8 S8
  go_wp2_with fail
  refine H9.out.mono ?_
  rintro e w9 ⟨rfl, S9⟩
  have S9 : St (fun _ => False) w (stars [drvP g gq fx2 fq1]) w9 := S9
  have H10 := Lib.hid (S9.reap 0 (by simp) rfl fq1_ok2 _ f_six)
  clear H9 S9
  go_wp2_with fail
  refine H10.out.mono ?_
  rintro e w10 ⟨rfl, S10⟩
  have S10 : St (fun _ => False) w (stars [drvP g gq fx2 (fq1.reaped 0)]) w10 := S10
  have H11 := Lib.hid (S10.newBad 0 (by simp) rfl 0 0 0 0 f_seven)
  clear H10 S10
  go_wp2_with fail
  refine H11.out.mono ?_
  rintro e w11 ⟨rfl, S11⟩
  have S11 : St (fun _ => False) w (stars [drvP g gq fx2 (fq1.reaped 0)]) w11 := S11
  have H12 := S11.free 0 (by simp) rfl
  rw [f_eight.1] at H12
  have H12 := Lib.hid H12
  have H13 := S11.held 0 (by simp) rfl fq2_ok
  have H13 := Lib.hid H13
  have S11 := Lib.hid S11
  clear H11
  go_wp2_with fail
  refine H12.out.mono ?_
  rintro e wx ⟨rfl, rfl⟩
  unfold HeldP at H13
  rw [f_eight.2.1] at H13
  go_wp2_with fail
  refine H13.out.mono ?_
  rintro e w12 ⟨A, cap, rfl, -, hb⟩
  have S12 := S11.out.below hb
  have H14 := S12.back 0 (by simp) rfl
  rw [f_eight.2.2.1, f_eight.2.2.2] at H14
  have H14 := Lib.hid H14
  have S12 := Lib.hid S12
  clear H12 H13 S11 hb
  go_wp2_with fail
  refine H14.out.mono ?_
  rintro e w13 ⟨rfl, hb⟩
  have HE := Lib.hid (S12.out.below hb).law
  clear H14 S12 hb
  go_wp2_with fail
  go_ret
  exact ⟨rfl, HE.out⟩
end Go.Proofs.Ytbpgblmhacpjlaa
namespace Go.Proofs.Ytbpgblmhacpjlaa
open Go.RowKit

theorem low_and (n : Int) (j : Nat) (m : Int) (hj : j ≤ 32) (hm : (BitVec.ofInt 64 m).toNat = 2 ^ j - 1) : ∃ X : Nat, X < 2 ^ j ∧ bits .and .i64 n m = (X : Int) := by
  have h : bits .and .i64 n m = IntKind.i64.wrap (((BitVec.ofInt 64 n).toNat % 2 ^ j : Nat) : Int) := by
    show IntKind.i64.wrap (((BitVec.ofInt 64 n &&& BitVec.ofInt 64 m).toNat : Nat) : Int) = _
    rw [BitVec.toNat_and, hm, Nat.and_two_pow_sub_one_eq_mod]
  have hb : (BitVec.ofInt 64 n).toNat % 2 ^ j < 2 ^ j := Nat.mod_lt _ (Nat.two_pow_pos j)
  have hp : 2 ^ j ≤ 2 ^ 32 := Nat.pow_le_pow_right (by omega) hj
  rw [IntWalk.i64_in _ (by omega)] at h
  exact ⟨_, hb, h⟩
theorem and16 (n : Int) : ∃ X : Nat, X < 65536 ∧ bits .and .i64 n 65535 = (X : Int) := low_and n 16 65535 (by decide) (by decide)
def IntsAt (A : Option Addr) (n : Nat) (w : World) : Prop := 0 < n → ∃ b off, A = some ⟨b, off, none⟩ ∧ b < w.heap.size ∧ ∀ i, i < n → ∃ z : Int, w.cell? ⟨b, off + i, none⟩ = some (.int .i64 z)
theorem IntsAt.cell {A : Option Addr} {n : Nat} {w w' : World} (h : IntsAt A n w) (hb : Below w.heap.size w w') (i : Nat) (hi : i < n) : ∃ b off, ∃ z : Int, A = some ⟨b, off, none⟩ ∧ b < w.heap.size ∧ w'.cell? ⟨b, off + i, none⟩ = some (.int .i64 z) := by
  obtain ⟨b, off, hA, hlt, hc⟩ := h (by omega)
  obtain ⟨z, hz⟩ := hc i hi
  exact ⟨b, off, z, hA, hlt, (hb.cell (p := ⟨b, off + i, none⟩) hlt).trans hz⟩
end Go.Proofs.Ytbpgblmhacpjlaa
